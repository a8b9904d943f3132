"""A grammar, its rules and their symbols."""

# A symbol is a tuple as a grammar row tells it: (NONTERMINAL, number) or (RANGE, lo, hi).
NONTERMINAL = 0
RANGE = 1

START = 0


class Rule:
    # The symbols are a tuple, so that a rule's content can be a key of a dict.
    def __init__(self, owner, symbols):
        self.owner = owner
        self.symbols = symbols


class Grammar:
    def __init__(self, size, rules):
        self.size = size
        self.rules = rules


def is_nonterminal(symbol):
    return symbol[0] == NONTERMINAL


def nonterminals_among(symbols):
    return [symbol[1] for symbol in symbols if is_nonterminal(symbol)]


def ranges_among(symbols):
    return [(symbol[1], symbol[2]) for symbol in symbols if not is_nonterminal(symbol)]


def others_beside(symbols, place):
    return symbols[:place] + symbols[place + 1:]
