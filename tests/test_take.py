import unittest

from tests.helper import (
    HUGE, ask, ask_of, extent, first, follow, full, grammar, least, left, load, row_of, set_of, take, trim,
)

TOO_MANY_WAYS = row_of(3, (0, 1, 1, 1, 1, 1, 1, 1, 1), (1,), (2, 2))
TOO_MANY_RULES = row_of(2, (1,), (0, "a"), *[(0, 1, (k, k)) for k in range(30)])


def all_calls(size):
    """Every call that changes nothing, on a grammar with so many nonterminals."""
    calls = [grammar()] + [set_of(k) for k in range(7)] + [extent(), trim(), full()]
    for a in range(-1, size + 1):
        calls += [first(a), follow(a), left(a), least(a)]
    return calls


class Take(unittest.TestCase):
    def holds(self, row, takes, wanted):
        """After the takes everything is answered as of an object into which the wanted grammar was loaded."""
        calls = all_calls(wanted[0])
        told = ask_of(row, *[take(k) for k in takes], *calls)
        self.assertEqual(told, [[0]] * len(takes) + ask_of(wanted, *calls))

    def test_k_neither_0_nor_1(self):
        row = row_of(3, (0, 1), (0, "a"), (1,), (2, 2))
        for k in (-1, 2, 3, -HUGE, HUGE):
            self.assertEqual(ask_of(row, take(k), grammar()), [[-5], [0] + row])

    def test_k_neither_0_nor_1_where_the_full_grammar_is_too_great(self):
        self.assertEqual(ask_of(TOO_MANY_WAYS, take(2), take(-1), grammar()), [[-5], [-5], [0] + TOO_MANY_WAYS])

    def test_new_object(self):
        self.assertEqual(ask(take(2), grammar()), [[-5], [0, 1, 0]])
        self.assertEqual(ask(take(0), grammar(), take(1), grammar()), [[0], [0, 1, 0], [0], [0, 1, 0]])

    def test_trimmed(self):
        rules = [(1, "z"), (0, 2, "a"), (0, 1, 3), (2, 2, "b"), (2,), (3, 3)]
        self.holds(row_of(4, *rules), [0], row_of(2, (0, 1, "a"), (1, 1, "b"), (1,)))

    def test_trimmed_answers(self):
        rules = [(1, "z"), (0, 2, "a"), (0, 1, 3), (2, 2, "b"), (2,), (3, 3)]
        told = ask_of(
            row_of(4, *rules), take(0), set_of(0), set_of(1), set_of(2), first(0), first(2), follow(1), left(1),
            least(1), least(0), extent(), trim(), full(),
        )
        row = row_of(2, (0, 1, "a"), (1, 1, "b"), (1,))
        self.assertEqual(told, [
            [0], [0, 1, 1], [0, 2, 0, 1], [0, 2, 0, 1], [0, 1, 97, 98], [-4], [0, 0, 1, 97, 98], [0, 1, 1, 1],
            [0, 0, 0], [0, 1, 1, 97], [0, 2], [0] + row + [2, 0, 1, 3, 0, 1, 2],
            [0] + row_of(2, (0, 1, "a"), (0, "a"), (1, 1, "b"), (1, "b")),
        ])

    def test_trimmed_where_the_start_is_not_useful(self):
        self.holds(row_of(3, (0, 1, 0), (1, "a"), (2, 1)), [0], [1, 0])

    def test_trimmed_with_nothing_to_trim(self):
        row = row_of(2, (0, 1, 0), (0, 1, 0), (0, "a"), (1,))
        self.holds(row, [0], row)

    def test_full(self):
        rules = [(0, 1, 0, "a"), (0, "b"), (1,), (2, 2, "c")]
        self.holds(row_of(3, *rules), [1], row_of(3, (0, 1, 0, "a"), (0, 0, "a"), (0, "b"), (2, 2, "c")))

    def test_full_answers(self):
        rules = [(0, 1, 0, "a"), (0, "b"), (1,), (2, 2, "c")]
        told = ask_of(
            row_of(3, *rules), take(1), set_of(0), set_of(1), set_of(2), set_of(6), first(0), follow(0), follow(1),
            left(0), least(1), least(0), extent(), trim(), full(),
        )
        row = row_of(3, (0, 1, 0, "a"), (0, 0, "a"), (0, "b"), (2, 2, "c"))
        self.assertEqual(told, [
            [0], [0, 0], [0, 1, 0], [0, 1, 0], [0, 1, 0], [0, 1, 98, 98], [0, 1, 1, 97, 97], [0, 0, 0],
            [0, 1, 1, 0], [1], [0, 1, 1, 98], [0, 2],
            [0] + row_of(1, (0, 0, "a"), (0, "b")) + [1, 0, 2, 1, 2], [0] + row,
        ])

    def test_full_of_one_that_reads_only_the_empty_text(self):
        self.holds(row_of(2, (0, 1, 1), (1,)), [1], row_of(2, (0, 1, 1), (0, 1)))
        self.assertEqual(ask_of(row_of(2, (0, 1, 1), (1,)), extent(), take(1), extent()), [[0, 1, 0], [0], [0, 0]])

    def test_full_too_great(self):
        for row in (TOO_MANY_WAYS, TOO_MANY_RULES):
            calls = all_calls(row[0])
            before = ask_of(row, *calls)
            self.assertEqual(ask_of(row, take(1), *calls), [[-6]] + before)
            self.assertEqual(ask_of(row, *calls, take(1), take(1), *calls), before + [[-6], [-6]] + before)

    def test_full_too_great_only_before_trimming(self):
        rules = [(0, "a", 1), (1,), (2, 1, 1, 1, 1, 1, 1, 1, 1)]
        row = row_of(3, *rules)
        trimmed = row_of(2, (0, "a", 1), (1,))
        told = ask_of(row, take(1), grammar(), take(0), grammar(), take(1), grammar())
        wanted = [[-6], [0] + row, [0], [0] + trimmed, [0], [0] + row_of(2, (0, "a", 1), (0, "a"))]
        self.assertEqual(told, wanted)

    def test_several_in_a_row(self):
        rules = [(0, 1, "a", 3), (0, 3), (1,), (2, "c", 2), (3, 1), (3, "d")]
        row = row_of(4, *rules)
        full_row = row_of(
            4, (0, 1, "a", 3), (0, 1, "a"), (0, "a", 3), (0, "a"), (0, 3), (2, "c", 2), (3, 1), (3, "d")
        )
        last = row_of(2, (0, "a", 1), (0, "a"), (0, 1), (1, "d"))
        self.holds(row, [1], full_row)
        self.holds(row, [1, 1], full_row)
        self.holds(row, [1, 0], last)
        self.holds(row, [1, 0, 0, 1, 0], last)
        trimmed = row_of(3, (0, 1, "a", 2), (0, 2), (1,), (2, 1), (2, "d"))
        self.holds(row, [0], trimmed)
        self.holds(row, [0, 0], trimmed)
        self.holds(row, [0, 1, 0], last)

    def test_load_behind_take(self):
        row = row_of(3, (0, 1, "a"), (1,), (2, 2))
        told = ask_of(row, take(0), load(row), grammar(), take(1), load([1, 1]), grammar(), load([1, 0]), grammar())
        self.assertEqual(told, [
            [0], [0], [0] + row, [0], [-2], [0] + row_of(3, (0, 1, "a"), (0, "a"), (2, 2)), [0], [0, 1, 0],
        ])

    def test_nothing_else_changes_the_object(self):
        row = row_of(3, (0, 1, "a"), (1,), (2, 2))
        for call in all_calls(3):
            self.assertEqual(ask_of(row, call, grammar())[1], [0] + row)


if __name__ == "__main__":
    unittest.main()
