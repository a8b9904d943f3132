"""The full grammar: what may be empty is left out in all ways, so that nothing in it is empty."""

from grammarsight.grammar import Grammar, Rule
from grammarsight.marks import all_hollow, hollow_marks
from grammarsight.rows import MOST_RULES

MOST_WAYS = 256


class TooGreat(Exception):
    pass


def count_ways(symbols, hollow):
    count = 1
    for symbol in symbols:
        if all_hollow([symbol], hollow):
            count *= 2
    return count


# From the last symbol to the first: the ways of the symbols behind come before those of the symbol ahead of them.
def ways_of_symbols(symbols, hollow):
    ways = [()]
    for symbol in reversed(symbols):
        longer = [(symbol,) + way for way in ways]
        ways = longer + ways if all_hollow([symbol], hollow) else longer
    return ways


# The ways are counted before any is built, as there could be thousands.
def full_grammar(grammar):
    hollow = hollow_marks(grammar)
    if sum([count_ways(rule.symbols, hollow) for rule in grammar.rules]) > MOST_WAYS:
        raise TooGreat()
    rules = []
    known = {}
    for rule in grammar.rules:
        for way in ways_of_symbols(rule.symbols, hollow):
            if way and (rule.owner, way) not in known:
                known[(rule.owner, way)] = True
                rules.append(Rule(rule.owner, way))
    if len(rules) > MOST_RULES:
        raise TooGreat()
    return Grammar(grammar.size, rules)
