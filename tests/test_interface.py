import unittest

from grammarsight.seen import answers
from tests.helper import extent, first, follow, full, grammar, least, left, load, row_of, set_of, take, trim

EXAMPLE = row_of(3, (0, 1, 0, "a"), (0, "b"), (1,), (2, 2, "c"))
EXAMPLE_NUMBERS = "3 4 0 3 0 1 0 0 1 97 97 0 1 1 98 98 1 0 2 2 0 2 1 99 99"
EXAMPLE_TRIMMED = row_of(2, (0, 1, 0, "a"), (0, "b"), (1,))
EXAMPLE_FULL = row_of(3, (0, 1, 0, "a"), (0, 0, "a"), (0, "b"), (2, 2, "c"))
TRIMMED_FULL = row_of(2, (0, 1, 0, "a"), (0, 0, "a"), (0, "b"))
MIXED = (
    grammar() + load(EXAMPLE) + set_of(0) + set_of(9) + first(0) + follow(0) + left(0) + least(3) + least(2) + least(0)
    + extent() + trim() + full() + take(2) + load([1, 1]) + grammar() + take(0) + take(1) + grammar()
)
MIXED_ANSWERS = (
    [3, 0, 1, 0] + [1, 0] + [3, 0, 1, 1] + [1, -5] + [4, 0, 1, 98, 98] + [5, 0, 1, 1, 97, 97]
    + [5, 0, 2, 2, 0, 1] + [1, -4] + [1, 1] + [4, 0, 1, 1, 98] + [2, 0, 2]
    + [1 + len(EXAMPLE_TRIMMED) + 7, 0] + EXAMPLE_TRIMMED + [2, 0, 1, 3, 0, 1, 2]
    + [1 + len(EXAMPLE_FULL), 0] + EXAMPLE_FULL + [1, -5] + [1, -2] + [26, 0] + EXAMPLE
    + [1, 0] + [1, 0] + [1 + len(TRIMMED_FULL), 0] + TRIMMED_FULL
)


class Interface(unittest.TestCase):
    def test_numbers_of_the_calls(self):
        told = answers([0, 2, 2, 0, 1, 2, 2, 3, 1, 4, 1, 5, 1, 6, 1, 7, 8, 9, 10, 0, 1])
        self.assertEqual(told, (
            [1, 0] + [3, 0, 2, 0] + [3, 0, 1, 0] + [2, 0, 0] + [3, 0, 0, 0] + [3, 0, 0, 0] + [1, 1] + [2, 0, 0]
            + [6, 0, 1, 0, 1, 0, 0] + [3, 0, 2, 0] + [1, 0] + [3, 0, 1, 0]
        ))

    def test_how_many_numbers_ahead_of_each_answer(self):
        self.assertEqual(answers(MIXED), MIXED_ANSWERS)

    def test_what_is_handed_in_is_not_changed(self):
        calls = list(MIXED)
        answers(calls)
        self.assertEqual(calls, MIXED)

    def test_the_answer_is_a_new_list_of_whole_numbers(self):
        calls = list(MIXED)
        told = answers(calls)
        self.assertIs(type(told), list)
        self.assertEqual({type(number) for number in told}, {int})
        told.clear()
        self.assertEqual(calls, MIXED)
        self.assertEqual(answers(calls), MIXED_ANSWERS)

    def test_two_lists_do_not_know_of_one_another(self):
        self.assertEqual(answers(load(EXAMPLE)), [1, 0])
        self.assertEqual(answers(grammar()), [3, 0, 1, 0])
        self.assertEqual(answers(MIXED), answers(MIXED))
        self.assertEqual(answers(load(EXAMPLE) + take(0) + full()), answers(load(EXAMPLE) + take(0) + full()))
        self.assertEqual(answers(load(EXAMPLE) + full()), [1, 0, 1 + len(EXAMPLE_FULL), 0] + EXAMPLE_FULL)
        self.assertEqual(answers(trim() + extent() + least(0)), [6, 0, 1, 0, 1, 0, 0, 2, 0, 0, 1, 1])
        self.assertEqual(answers(set_of(2)), [3, 0, 1, 0])

    def test_row_that_looks_like_calls_is_skipped_whole(self):
        self.assertEqual(answers(load([1, 2, 0, 7]) + load([]) + grammar()), [1, -2, 1, -2, 3, 0, 1, 0])

    def test_hundred_calls(self):
        self.assertEqual(answers(grammar() * 100), [3, 0, 1, 0] * 100)

    def test_longest_line(self):
        rule = (19,) + tuple(range(8))
        row = row_of(20, *[rule] * 30, *[(a % 20, a % 20, (a, 255)) for a in range(30)])
        calls = load(row) * 5 + set_of(6) * 5 + follow(19) * 90
        self.assertLessEqual(len(calls), 17000)
        self.assertEqual(answers(calls), [1, 0] * 5 + [2, 0, 0] * 5 + [3, 0, 0, 0] * 90)

    def test_greatest_answers(self):
        rules = [(a, *[(a + 1) % 20] * 5, *[(a, 255)] * 3) for a in range(20)]
        row = row_of(20, *rules, *[(19, *[(k, 255)] * 8) for k in range(40)])
        trimmed = [1 + len(row) + 82, 0] + row + [20] + list(range(20)) + [60] + list(range(60))
        told = answers(load(row) + trim() * 33 + full() * 33 + take(0) + take(1) + least(0) * 31 + extent())
        self.assertEqual(told[:2 + 33 * len(trimmed)], [1, 0] + trimmed * 33)
        told = told[2 + 33 * len(trimmed):]
        self.assertEqual(told[:33 * (len(row) + 2)], ([1 + len(row), 0] + row) * 33)
        length = 8
        for a in range(19):
            length = 5 * length + 3
        self.assertEqual(told[33 * (len(row) + 2):], [1, 0, 1, 0] + [3, 0, length, 0] * 31 + [2, 0, 2])


class Examples(unittest.TestCase):
    def told(self, call):
        return answers(load(EXAMPLE) + call)[3:]

    def test_row(self):
        self.assertEqual(" ".join(str(number) for number in EXAMPLE), EXAMPLE_NUMBERS)
        self.assertEqual(self.told(grammar()), [0] + EXAMPLE)

    def test_sets(self):
        self.assertEqual(self.told(set_of(0)), [0, 1, 1])
        self.assertEqual(self.told(set_of(1)), [0, 2, 0, 1])
        self.assertEqual(self.told(set_of(2)), [0, 2, 0, 1])

    def test_left(self):
        self.assertEqual(self.told(left(0)), [0, 2, 2, 0, 1])

    def test_first_and_follow(self):
        self.assertEqual(self.told(first(0)), [0, 1, 98, 98])
        self.assertEqual(self.told(follow(0)), [0, 1, 1, 97, 97])
        self.assertEqual(self.told(follow(1)), [0, 0, 1, 98, 98])

    def test_least(self):
        self.assertEqual(self.told(least(0)), [0, 1, 1, 98])
        self.assertEqual(self.told(least(2)), [1])

    def test_extent(self):
        self.assertEqual(self.told(extent()), [0, 2])

    def test_trim(self):
        self.assertEqual(self.told(trim()), [0] + EXAMPLE_TRIMMED + [2, 0, 1] + [3, 0, 1, 2])

    def test_full(self):
        self.assertEqual(self.told(full()), [0] + EXAMPLE_FULL)


if __name__ == "__main__":
    unittest.main()
