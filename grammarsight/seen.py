"""The calls on one object that holds a grammar, and their answers as numbers."""

from grammarsight.edges import end_follows, first_ranges, follow_ranges
from grammarsight.extents import longest_length, reads_any, reads_infinitely_many
from grammarsight.filling import TooGreat, full_grammar
from grammarsight.grammar import Grammar
from grammarsight.leasts import least_texts
from grammarsight.marks import (
    growing_marks,
    hollow_marks,
    productive_marks,
    reachable_marks,
    useful_marks,
    useful_rule_numbers,
)
from grammarsight.ranges import told_ranges
from grammarsight.reading import Reader
from grammarsight.rows import NoGrammarRow, grammar_from_row, row_of_grammar
from grammarsight.steps import led_to
from grammarsight.trimming import staying_nonterminals, trimmed_grammar
from grammarsight.turns import cyclic_marks, left_kinds, left_recursive_marks, left_steps

DONE = 0
NOT_PRODUCTIVE = 1
NEGATIVE_NUMBER = -1
NO_GRAMMAR_ROW = -2
NO_SUCH_NONTERMINAL = -4
NO_SUCH_CHOICE = -5
TOO_GREAT = -6

NO_TEXT = 0
FINITELY_MANY = 1
INFINITELY_MANY = 2

LOAD = 0
LAST_SET = 6
TAKE_TRIMMED = 0
TAKE_FULL = 1


class Holder:
    def __init__(self):
        self.held = Grammar(1, [])


def load_answer(holder, row):
    if any([number < 0 for number in row]):
        return [NEGATIVE_NUMBER]
    try:
        grammar = grammar_from_row(row)
    except NoGrammarRow:
        return [NO_GRAMMAR_ROW]
    holder.held = grammar
    return [DONE]


def grammar_answer(holder):
    return [DONE] + row_of_grammar(holder.held)


def marks_of_choice(grammar, k):
    choices = [
        hollow_marks,
        productive_marks,
        reachable_marks,
        useful_marks,
        cyclic_marks,
        growing_marks,
        left_recursive_marks,
    ]
    marks_of = choices[k]
    return marks_of(grammar)


def set_answer(holder, k):
    if k < 0 or k > LAST_SET:
        return [NO_SUCH_CHOICE]
    marks = marks_of_choice(holder.held, k)
    members = [a for a in range(holder.held.size) if marks[a]]
    return [DONE, len(members)] + members


def is_missing(holder, a):
    return a < 0 or a >= holder.held.size


def first_answer(holder, a):
    if is_missing(holder, a):
        return [NO_SUCH_NONTERMINAL]
    return [DONE] + told_ranges(first_ranges(holder.held)[a])


def follow_answer(holder, a):
    if is_missing(holder, a):
        return [NO_SUCH_NONTERMINAL]
    end = 1 if end_follows(holder.held, a) else 0
    return [DONE, end] + told_ranges(follow_ranges(holder.held, a))


def left_answer(holder, a):
    if is_missing(holder, a):
        return [NO_SUCH_NONTERMINAL]
    reached = led_to(left_steps(holder.held), a)
    return [DONE, left_kinds(holder.held, a), len(reached)] + reached


def least_answer(holder, a):
    if is_missing(holder, a):
        return [NO_SUCH_NONTERMINAL]
    least = least_texts(holder.held)[a]
    if least is None:
        return [NOT_PRODUCTIVE]
    return [DONE, least[0], len(least[1])] + list(least[1])


def extent_answer(holder):
    if not reads_any(holder.held):
        return [DONE, NO_TEXT]
    if reads_infinitely_many(holder.held):
        return [DONE, INFINITELY_MANY]
    return [DONE, FINITELY_MANY, longest_length(holder.held)]


def trim_answer(holder):
    nonterminals = staying_nonterminals(holder.held)
    rules = useful_rule_numbers(holder.held)
    row = row_of_grammar(trimmed_grammar(holder.held))
    return [DONE] + row + [len(nonterminals)] + nonterminals + [len(rules)] + rules


def full_answer(holder):
    try:
        grammar = full_grammar(holder.held)
    except TooGreat:
        return [TOO_GREAT]
    return [DONE] + row_of_grammar(grammar)


def take_answer(holder, k):
    if k != TAKE_TRIMMED and k != TAKE_FULL:
        return [NO_SUCH_CHOICE]
    try:
        grammar = trimmed_grammar(holder.held) if k == TAKE_TRIMMED else full_grammar(holder.held)
    except TooGreat:
        return [TOO_GREAT]
    holder.held = grammar
    return [DONE]


WITHOUT_NUMBER = {
    1: grammar_answer,
    7: extent_answer,
    8: trim_answer,
    9: full_answer,
}
WITH_NUMBER = {
    2: set_answer,
    3: first_answer,
    4: follow_answer,
    5: left_answer,
    6: least_answer,
    10: take_answer,
}


def next_answer(holder, reader):
    number = reader.next_number()
    if number == LOAD:
        return load_answer(holder, reader.next_row())
    if number in WITHOUT_NUMBER:
        answer_of = WITHOUT_NUMBER[number]
        return answer_of(holder)
    answer_of = WITH_NUMBER[number]
    return answer_of(holder, reader.next_number())


def answers(calls):
    holder = Holder()
    reader = Reader(calls)
    told = []
    while not reader.at_end():
        answer = next_answer(holder, reader)
        told.append(len(answer))
        told.extend(answer)
    return told
