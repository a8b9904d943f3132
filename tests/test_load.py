import unittest

from tests.helper import HUGE, ask, grammar, load, row_of, set_of, first

EXAMPLE = row_of(3, (0, 1, 0, "a"), (0, "b"), (1,), (2, 2, "c"))


class LoadHolds(unittest.TestCase):
    def holds(self, row):
        self.assertEqual(ask(load(row), grammar()), [[0], [0] + row])

    def test_ordinary(self):
        self.holds(EXAMPLE)

    def test_fewest_of_all(self):
        self.holds([1, 0])

    def test_how_many_nonterminals(self):
        for size in range(1, 21):
            self.holds([size, 0])

    def test_greatest_nonterminal_as_owner_and_symbol(self):
        self.holds(row_of(20, (19, 19)))

    def test_how_many_rules(self):
        for length in range(61):
            self.holds(row_of(2, *[(1, 0)] * length))

    def test_how_many_symbols(self):
        for length in range(9):
            self.holds(row_of(2, (0,) + (1,) * length, (1,) + ((0, 255),) * length))

    def test_bytes_at_the_edges(self):
        for pair in ((0, 0), (255, 255), (0, 255), (254, 255), (0, 1)):
            self.holds(row_of(1, (0, pair)))

    def test_same_rules(self):
        self.holds(row_of(1, (0, 0, "a"), (0, 0, "a")))

    def test_greatest_grammar(self):
        rule = (19,) + ((0, 255),) * 8
        self.holds(row_of(20, *[rule] * 60))


class LoadRefuses(unittest.TestCase):
    def refuses(self, row, number):
        """After the refusal the object is as it was, the new one and one that holds a grammar."""
        self.assertEqual(ask(load(row), grammar()), [[number], [0, 1, 0]])
        told = ask(load(EXAMPLE), load(row), grammar(), set_of(1), first(0))
        self.assertEqual(told, [[0], [number], [0] + EXAMPLE, [0, 2, 0, 1], [0, 1, 98, 98]])

    def test_too_short(self):
        for length in range(len(EXAMPLE)):
            self.refuses(EXAMPLE[:length], -2)

    def test_empty(self):
        self.refuses([], -2)

    def test_too_long(self):
        for more in ([0], [1], [0, 0], [HUGE]):
            self.refuses(EXAMPLE + more, -2)
            self.refuses([1, 0] + more, -2)

    def test_how_many_nonterminals(self):
        for size in (0, 21, 22, HUGE):
            self.refuses([size, 0], -2)

    def test_how_many_rules(self):
        self.refuses(row_of(2, *[(1, 0)] * 61), -2)
        self.refuses([1, 61], -2)
        self.refuses([1, HUGE], -2)
        self.refuses([1, 1], -2)
        self.refuses([1, 0, 0, 0], -2)

    def test_owner(self):
        self.refuses([1, 1, 1, 0], -2)
        self.refuses([20, 1, 20, 0], -2)
        self.refuses([1, 1, HUGE, 0], -2)

    def test_how_many_symbols(self):
        self.refuses(row_of(2, (0,) + (1,) * 9), -2)
        self.refuses(row_of(2, (0,) + ("a",) * 9), -2)
        self.refuses([1, 1, 0, HUGE], -2)

    def test_kind_of_symbol(self):
        for kind in (2, 3, 255, HUGE):
            self.refuses([1, 1, 0, 1, kind, 0], -2)
            self.refuses([1, 1, 0, 1, kind, 0, 0], -2)

    def test_nonterminal_among_symbols(self):
        self.refuses([1, 1, 0, 1, 0, 1], -2)
        self.refuses([20, 1, 0, 1, 0, 20], -2)
        self.refuses([1, 1, 0, 1, 0, HUGE], -2)

    def test_bytes(self):
        for pair in ((0, 256), (256, 256), (255, 256), (0, HUGE), (HUGE, HUGE), (HUGE, 0)):
            self.refuses(row_of(1, (0, pair)), -2)

    def test_lo_above_hi(self):
        for pair in ((1, 0), (255, 254), (255, 0)):
            self.refuses(row_of(1, (0, pair)), -2)

    def test_below_0_at_every_place(self):
        for place in range(len(EXAMPLE)):
            for number in (-1, -HUGE):
                self.refuses(EXAMPLE[:place] + [number] + EXAMPLE[place + 1:], -1)

    def test_below_0_before_no_grammar_row(self):
        for row in ([-1], [0, -1], [21, 0, -1], EXAMPLE + [-1], [HUGE, HUGE, -HUGE], [1, 0, 0, 0, -1]):
            self.refuses(row, -1)

    def test_longest_rows(self):
        self.refuses([0] * 2000, -2)
        self.refuses([HUGE] * 2000, -2)
        self.refuses([1] * 1999 + [-1], -1)


class GrammarTells(unittest.TestCase):
    def test_new_object(self):
        self.assertEqual(ask(grammar()), [[0, 1, 0]])

    def test_second_load(self):
        other = row_of(2, (1, (3, 9)), (0,))
        told = ask(load(EXAMPLE), grammar(), load(other), grammar(), grammar(), load([1, 0]), grammar())
        self.assertEqual(told, [[0], [0] + EXAMPLE, [0], [0] + other, [0] + other, [0], [0, 1, 0]])


if __name__ == "__main__":
    unittest.main()
