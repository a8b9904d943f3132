"""A grammar trimmed: without the nonterminals and the rules that are not useful."""

from grammarsight.grammar import NONTERMINAL, START, Grammar, Rule, is_nonterminal
from grammarsight.marks import useful_marks, useful_rules


# The start stays even if it is not useful: every grammar has one.
def staying_nonterminals(grammar):
    useful = useful_marks(grammar)
    return [a for a in range(grammar.size) if a == START or useful[a]]


def renumbered_symbol(symbol, numbers):
    return (NONTERMINAL, numbers[symbol[1]]) if is_nonterminal(symbol) else symbol


def renumbered_rule(rule, numbers):
    symbols = [renumbered_symbol(symbol, numbers) for symbol in rule.symbols]
    return Rule(numbers[rule.owner], tuple(symbols))


def trimmed_grammar(grammar):
    staying = staying_nonterminals(grammar)
    numbers = {}
    for number, a in enumerate(staying):
        numbers[a] = number
    return Grammar(len(staying), [renumbered_rule(rule, numbers) for rule in useful_rules(grammar)])
