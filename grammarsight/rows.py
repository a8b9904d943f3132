"""Grammar rows: a grammar read from its numbers, and told by them."""

from grammarsight.grammar import NONTERMINAL, RANGE, Grammar, Rule
from grammarsight.reading import Reader

MOST_NONTERMINALS = 20
MOST_RULES = 60
MOST_SYMBOLS = 8
GREATEST_BYTE = 255


# Raised from deep within a row, so that no step in between has to hand a failure on.
class NoGrammarRow(Exception):
    pass


# Every number is held to its bounds before it is used, so that a huge count never starts a loop.
def number_within(reader, lowest, highest):
    if reader.at_end():
        raise NoGrammarRow()
    number = reader.next_number()
    if number < lowest or number > highest:
        raise NoGrammarRow()
    return number


def read_symbol(reader, size):
    kind = number_within(reader, NONTERMINAL, RANGE)
    if kind == NONTERMINAL:
        return (NONTERMINAL, number_within(reader, 0, size - 1))
    lo = number_within(reader, 0, GREATEST_BYTE)
    hi = number_within(reader, lo, GREATEST_BYTE)
    return (RANGE, lo, hi)


def read_rule(reader, size):
    owner = number_within(reader, 0, size - 1)
    length = number_within(reader, 0, MOST_SYMBOLS)
    symbols = [read_symbol(reader, size) for place in range(length)]
    return Rule(owner, tuple(symbols))


def grammar_from_row(row):
    reader = Reader(row)
    size = number_within(reader, 1, MOST_NONTERMINALS)
    length = number_within(reader, 0, MOST_RULES)
    rules = [read_rule(reader, size) for place in range(length)]
    if not reader.at_end():
        raise NoGrammarRow()
    return Grammar(size, rules)


def row_of_grammar(grammar):
    row = [grammar.size, len(grammar.rules)]
    for rule in grammar.rules:
        row.append(rule.owner)
        row.append(len(rule.symbols))
        for symbol in rule.symbols:
            row.extend(symbol)
    return row
