"""How far a grammar reaches: whether it reads any text, infinitely many, and how long the longest is."""

from grammarsight.grammar import START, is_nonterminal, others_beside
from grammarsight.marks import growing_marks, nonterminal_steps, some_growing, useful_marks, useful_rules
from grammarsight.settling import settled
from grammarsight.steps import led_to


# Each step of a useful rule from its owner to one of its symbols beside which something can grow.
def growing_steps(grammar):
    growing = growing_marks(grammar)
    found = []
    for rule in useful_rules(grammar):
        for place, symbol in enumerate(rule.symbols):
            if is_nonterminal(symbol) and some_growing(others_beside(rule.symbols, place), growing):
                found.append((rule.owner, symbol[1]))
    return found


def reads_any(grammar):
    return useful_marks(grammar)[START]


# Texts grow without end just where a turn holds a step beside which something grows: with every round once more.
def reads_infinitely_many(grammar):
    steps = nonterminal_steps(grammar.size, useful_rules(grammar))
    return any([a in led_to(steps, b) for a, b in growing_steps(grammar)])


def longer_by_symbols(known, symbols, lengths):
    found = [lengths[symbol[1]] if is_nonterminal(symbol) else 1 for symbol in symbols]
    return max(known, sum(found))


# Only for a grammar that reads finitely many texts: else the lengths would never settle.
def longest_length(grammar):
    return settled(0, grammar.size, useful_rules(grammar), longer_by_symbols)[START]
