"""Sets of nonterminals, as marks: marks[a] is True if the nonterminal a is in the set."""

from grammarsight.grammar import START, is_nonterminal, nonterminals_among
from grammarsight.settling import settled
from grammarsight.steps import led_to


def settled_marks(size, rules, symbols_suffice):
    return settled(False, size, rules, lambda known, symbols, marks: known or symbols_suffice(symbols, marks))


def all_hollow(symbols, hollow):
    return all([is_nonterminal(symbol) and hollow[symbol[1]] for symbol in symbols])


def all_productive(symbols, productive):
    return all([productive[a] for a in nonterminals_among(symbols)])


def hollow_marks(grammar):
    return settled_marks(grammar.size, grammar.rules, all_hollow)


def productive_marks(grammar):
    return settled_marks(grammar.size, grammar.rules, all_productive)


def productive_rules(grammar):
    productive = productive_marks(grammar)
    return [rule for rule in grammar.rules if all_productive(rule.symbols, productive)]


def some_growing(symbols, growing):
    return any([not is_nonterminal(symbol) or growing[symbol[1]] for symbol in symbols])


# Only productive rules: in these every symbol covers something, so one that grows is enough.
def growing_marks(grammar):
    return settled_marks(grammar.size, productive_rules(grammar), some_growing)


def nonterminal_steps(size, rules):
    steps = [[] for a in range(size)]
    for rule in rules:
        steps[rule.owner].extend(nonterminals_among(rule.symbols))
    return steps


def reachable_marks(grammar):
    reached = led_to(nonterminal_steps(grammar.size, productive_rules(grammar)), START)
    return [a == START or a in reached for a in range(grammar.size)]


def useful_marks(grammar):
    productive = productive_marks(grammar)
    reachable = reachable_marks(grammar)
    return [productive[a] and reachable[a] for a in range(grammar.size)]


def useful_rule_numbers(grammar):
    productive = productive_marks(grammar)
    useful = useful_marks(grammar)
    numbers = []
    for number, rule in enumerate(grammar.rules):
        if useful[rule.owner] and all_productive(rule.symbols, productive):
            numbers.append(number)
    return numbers


def useful_rules(grammar):
    return [grammar.rules[number] for number in useful_rule_numbers(grammar)]
