"""Least texts: of a nonterminal the shortest that it covers, and of these the one with the smaller bytes."""

from grammarsight.grammar import is_nonterminal
from grammarsight.settling import settled

LONGEST_TOLD = 64


# A least text is a tuple of its length and a tuple of its bytes, so that the lesser of two is Python's own minimum.
def least_of_symbol(symbol, leasts):
    if is_nonterminal(symbol):
        return leasts[symbol[1]]
    return (1, (symbol[1],))


# Of a text that is too long to be told only the length is kept: it may be far too long to be written out, and it is no
# part of a text that is short enough.
def least_of_symbols(symbols, leasts):
    length = 0
    text = ()
    for symbol in symbols:
        least = least_of_symbol(symbol, leasts)
        if least is None:
            return None
        length += least[0]
        text = text + least[1]
    return (length, text) if length <= LONGEST_TOLD else (length, ())


def lesser_by_symbols(known, symbols, leasts):
    found = least_of_symbols(symbols, leasts)
    if found is None:
        return known
    return found if known is None else min(known, found)


# None for a nonterminal that is not productive.
def least_texts(grammar):
    return settled(None, grammar.size, grammar.rules, lesser_by_symbols)
