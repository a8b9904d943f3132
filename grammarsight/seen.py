"""The calls on one object that holds a grammar, and their answers as numbers."""

from grammarsight.edges import end_follows, first_ranges, follow_ranges
from grammarsight.grammar import Grammar
from grammarsight.marks import growing_marks, hollow_marks, productive_marks, reachable_marks, useful_marks
from grammarsight.ranges import told_ranges
from grammarsight.reading import Reader
from grammarsight.rows import NoGrammarRow, grammar_from_row, row_of_grammar
from grammarsight.steps import led_to
from grammarsight.turns import cyclic_marks, left_kinds, left_recursive_marks, left_steps

DONE = 0
NEGATIVE_NUMBER = -1
NO_GRAMMAR_ROW = -2
NO_SUCH_NONTERMINAL = -4
NO_SUCH_CHOICE = -5

LOAD = 0
LAST_SET = 6
LAST_TAKEN = 1


# A call, or a part of one, that this program does not answer yet.
class NotBuilt(NotImplementedError):
    pass


class Holder:
    def __init__(self):
        self.held = Grammar(1, [])


def load_answer(holder, row):
    if any([number < 0 for number in row]):
        return [NEGATIVE_NUMBER]
    try:
        grammar = grammar_from_row(row)
    except NoGrammarRow:
        return [NO_GRAMMAR_ROW]
    holder.held = grammar
    return [DONE]


def grammar_answer(holder):
    return [DONE] + row_of_grammar(holder.held)


def marks_of_choice(grammar, k):
    choices = [
        hollow_marks,
        productive_marks,
        reachable_marks,
        useful_marks,
        cyclic_marks,
        growing_marks,
        left_recursive_marks,
    ]
    marks_of = choices[k]
    return marks_of(grammar)


def set_answer(holder, k):
    if k < 0 or k > LAST_SET:
        return [NO_SUCH_CHOICE]
    marks = marks_of_choice(holder.held, k)
    members = [a for a in range(holder.held.size) if marks[a]]
    return [DONE, len(members)] + members


def is_missing(holder, a):
    return a < 0 or a >= holder.held.size


def first_answer(holder, a):
    if is_missing(holder, a):
        return [NO_SUCH_NONTERMINAL]
    return [DONE] + told_ranges(first_ranges(holder.held)[a])


def follow_answer(holder, a):
    if is_missing(holder, a):
        return [NO_SUCH_NONTERMINAL]
    end = 1 if end_follows(holder.held, a) else 0
    return [DONE, end] + told_ranges(follow_ranges(holder.held, a))


def left_answer(holder, a):
    if is_missing(holder, a):
        return [NO_SUCH_NONTERMINAL]
    reached = led_to(left_steps(holder.held), a)
    return [DONE, left_kinds(holder.held, a), len(reached)] + reached


def least_answer(holder, a):
    if is_missing(holder, a):
        return [NO_SUCH_NONTERMINAL]
    raise NotBuilt("least")


def take_answer(holder, k):
    if k < 0 or k > LAST_TAKEN:
        return [NO_SUCH_CHOICE]
    raise NotBuilt("take")


WITHOUT_NUMBER = {1: grammar_answer}
WITH_NUMBER = {
    2: set_answer,
    3: first_answer,
    4: follow_answer,
    5: left_answer,
    6: least_answer,
    10: take_answer,
}


def next_answer(holder, reader):
    number = reader.next_number()
    if number == LOAD:
        return load_answer(holder, reader.next_row())
    if number in WITHOUT_NUMBER:
        answer_of = WITHOUT_NUMBER[number]
        return answer_of(holder)
    if number in WITH_NUMBER:
        answer_of = WITH_NUMBER[number]
        return answer_of(holder, reader.next_number())
    raise NotBuilt(f"call {number}")


def answers(calls):
    holder = Holder()
    reader = Reader(calls)
    told = []
    while not reader.at_end():
        answer = next_answer(holder, reader)
        told.append(len(answer))
        told.extend(answer)
    return told
