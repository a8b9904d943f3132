"""Where a grammar turns round upon itself: left recursion and cycles."""

from grammarsight.grammar import is_nonterminal, others_beside
from grammarsight.marks import all_hollow, hollow_marks, productive_rules
from grammarsight.steps import led_to, returning_marks

DIRECTLY = 1
HIDDENLY = 2
THROUGH_OTHERS = 4


# The symbols before which nothing but hollow nonterminals stands: with each of them the row may begin.
def leading_symbols(symbols, hollow):
    leading = []
    for symbol in symbols:
        leading.append(symbol)
        if not all_hollow([symbol], hollow):
            break
    return leading


# ways[a] lists the left ways from a: each a nonterminal, and whether the way is hidden.
def left_ways(grammar):
    hollow = hollow_marks(grammar)
    ways = [[] for a in range(grammar.size)]
    for rule in productive_rules(grammar):
        for place, symbol in enumerate(leading_symbols(rule.symbols, hollow)):
            if is_nonterminal(symbol):
                ways[rule.owner].append((symbol[1], place > 0))
    return ways


def left_steps(grammar):
    steps = []
    for ways in left_ways(grammar):
        steps.append([way[0] for way in ways])
    return steps


def left_recursive_marks(grammar):
    return returning_marks(left_steps(grammar))


def returns_through_others(steps, a):
    return any([a in led_to(steps, b) for b in steps[a] if b != a])


def left_kinds(grammar, a):
    ways = left_ways(grammar)[a]
    kinds = 0
    if (a, False) in ways:
        kinds += DIRECTLY
    if (a, True) in ways:
        kinds += HIDDENLY
    if returns_through_others(left_steps(grammar), a):
        kinds += THROUGH_OTHERS
    return kinds


def same_piece_steps(grammar):
    hollow = hollow_marks(grammar)
    steps = [[] for a in range(grammar.size)]
    for rule in productive_rules(grammar):
        for place, symbol in enumerate(rule.symbols):
            if is_nonterminal(symbol) and all_hollow(others_beside(rule.symbols, place), hollow):
                steps[rule.owner].append(symbol[1])
    return steps


def cyclic_marks(grammar):
    return returning_marks(same_piece_steps(grammar))
