"""What stands at the edges of a nonterminal: its first bytes, and what follows it."""

from grammarsight.grammar import START, is_nonterminal, nonterminals_among, ranges_among
from grammarsight.marks import all_hollow, hollow_marks, productive_rules, useful_marks, useful_rules
from grammarsight.ranges import joined_ranges
from grammarsight.steps import led_to
from grammarsight.turns import leading_symbols, left_steps


# All that parts lists at a, and at every nonterminal to which steps lead from a.
def gathered(parts, steps, a):
    found = list(parts[a])
    for b in led_to(steps, a):
        found.extend(parts[b])
    return found


# A byte is first in a if a range stands at the front of one of a's rules, or of a rule some left steps on.
def first_ranges(grammar):
    hollow = hollow_marks(grammar)
    fronts = [[] for a in range(grammar.size)]
    for rule in productive_rules(grammar):
        fronts[rule.owner].extend(ranges_among(leading_symbols(rule.symbols, hollow)))
    steps = left_steps(grammar)
    return [joined_ranges(gathered(fronts, steps, a)) for a in range(grammar.size)]


def first_of_symbols(symbols, hollow, firsts):
    leading = leading_symbols(symbols, hollow)
    found = ranges_among(leading)
    for a in nonterminals_among(leading):
        found.extend(firsts[a])
    return found


# Every place of a nonterminal in a useful rule: the rule's owner, the nonterminal, and the symbols behind it.
def useful_places(grammar):
    places = []
    for rule in useful_rules(grammar):
        for place, symbol in enumerate(rule.symbols):
            if is_nonterminal(symbol):
                places.append((rule.owner, symbol[1], rule.symbols[place + 1:]))
    return places


# What follows the owner of a rule follows each nonterminal that may stand at the rule's end: steps lead to the owner.
def ending_steps(grammar):
    hollow = hollow_marks(grammar)
    steps = [[] for b in range(grammar.size)]
    for owner, b, rest in useful_places(grammar):
        if all_hollow(rest, hollow):
            steps[b].append(owner)
    return steps


def follow_ranges(grammar, a):
    hollow = hollow_marks(grammar)
    firsts = first_ranges(grammar)
    behind = [[] for b in range(grammar.size)]
    for owner, b, rest in useful_places(grammar):
        behind[b].extend(first_of_symbols(rest, hollow, firsts))
    return joined_ranges(gathered(behind, ending_steps(grammar), a))


def end_follows(grammar, a):
    if not useful_marks(grammar)[START]:
        return False
    return a == START or START in led_to(ending_steps(grammar), a)
