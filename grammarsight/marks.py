"""Sets of nonterminals, as marks: marks[a] is True if the nonterminal a is in the set."""

from grammarsight.grammar import START, is_nonterminal, nonterminals_among
from grammarsight.steps import led_to


# What a nonterminal covers follows in finitely many steps alone, so marks start out empty and only grow.
def settled_marks(size, rules, symbols_suffice):
    marks = [False] * size
    changed = True
    while changed:
        changed = False
        for rule in rules:
            if not marks[rule.owner] and symbols_suffice(rule.symbols, marks):
                marks[rule.owner] = True
                changed = True
    return marks


def all_hollow(symbols, hollow):
    return all([is_nonterminal(symbol) and hollow[symbol[1]] for symbol in symbols])


def all_productive(symbols, productive):
    return all([productive[a] for a in nonterminals_among(symbols)])


def hollow_marks(grammar):
    return settled_marks(grammar.size, grammar.rules, all_hollow)


def productive_marks(grammar):
    return settled_marks(grammar.size, grammar.rules, all_productive)


def productive_rules(grammar):
    productive = productive_marks(grammar)
    return [rule for rule in grammar.rules if all_productive(rule.symbols, productive)]


def some_growing(symbols, growing):
    return any([not is_nonterminal(symbol) or growing[symbol[1]] for symbol in symbols])


# Only productive rules: in these every symbol covers something, so one that grows is enough.
def growing_marks(grammar):
    return settled_marks(grammar.size, productive_rules(grammar), some_growing)


def reachable_marks(grammar):
    steps = [[] for a in range(grammar.size)]
    for rule in productive_rules(grammar):
        steps[rule.owner].extend(nonterminals_among(rule.symbols))
    reached = led_to(steps, START)
    return [a == START or a in reached for a in range(grammar.size)]


def useful_marks(grammar):
    productive = productive_marks(grammar)
    reachable = reachable_marks(grammar)
    return [productive[a] and reachable[a] for a in range(grammar.size)]


def useful_rules(grammar):
    useful = useful_marks(grammar)
    return [rule for rule in productive_rules(grammar) if useful[rule.owner]]
