import unittest

from tests.helper import ask, ask_of, full, grammar, row_of


def ones(*counts):
    """Rules of the start with so many hollow nonterminals each, which are 2 ways for each of these."""
    return [(0,) + (1,) * count for count in counts]


class Full(unittest.TestCase):
    def makes(self, size, rules, wanted):
        row = row_of(size, *rules)
        self.assertEqual(ask_of(row, full(), grammar()), [[0] + row_of(size, *wanted), [0] + row])

    def refuses(self, size, rules):
        row = row_of(size, *rules)
        self.assertEqual(ask_of(row, full(), grammar()), [[-6], [0] + row])

    def test_new_object(self):
        self.assertEqual(ask(full()), [[0, 1, 0]])

    def test_nothing_hollow(self):
        rules = [(0, 1, "a"), (0, 0), (1, (3, 9), 2), (2, 2), (1, 0, 0)]
        self.makes(4, rules, rules)

    def test_order_of_the_ways(self):
        rules = [(0, 1, "x", 2), (1,), (1, "a"), (2, "b"), (2,)]
        wanted = [(0, 1, "x", 2), (0, 1, "x"), (0, "x", 2), (0, "x"), (1, "a"), (2, "b")]
        self.makes(3, rules, wanted)

    def test_order_of_three(self):
        rules = [(1,), (0, 1, 2, 3, "z"), (2,), (3,)]
        ways = [(1, 2, 3), (1, 2), (1, 3), (1,), (2, 3), (2,), (3,), ()]
        self.makes(4, rules, [(0, *way, "z") for way in ways])

    def test_only_hollow_ones_are_left_out(self):
        rules = [(0, 1, 2, 3), (1,), (2, "a"), (3, 1)]
        self.makes(4, rules, [(0, 1, 2, 3), (0, 1, 2), (0, 2, 3), (0, 2), (2, "a"), (3, 1)])

    def test_order_of_the_rules(self):
        rules = [(2, "c"), (1, 2), (0, 2, 1), (2,), (0, "a")]
        self.makes(3, rules, [(2, "c"), (1, 2), (0, 2, 1), (0, 2), (0, 1), (0, "a")])

    def test_same_ways_of_one_rule(self):
        self.makes(2, [(0, 1, 1, 1), (1,)], [(0, 1, 1, 1), (0, 1, 1), (0, 1)])
        self.makes(2, [(0, 1, 1, "a"), (1,)], [(0, 1, 1, "a"), (0, 1, "a"), (0, "a")])

    def test_same_as_a_way_of_an_earlier_rule(self):
        rules = [(0, "a"), (0, 1, "a"), (0, 1, "a", 1), (1,)]
        self.makes(2, rules, [(0, "a"), (0, 1, "a"), (0, 1, "a", 1), (0, "a", 1)])

    def test_rules_that_are_the_same(self):
        self.makes(2, [(0, "a", 1), (1, "b"), (0, "a", 1), (1, "b")], [(0, "a", 1), (1, "b")])

    def test_same_symbols_of_another_nonterminal(self):
        self.makes(2, [(0, "a"), (1, "a"), (0, "b"), (1, "b")], [(0, "a"), (1, "a"), (0, "b"), (1, "b")])

    def test_ranges_that_are_not_the_same(self):
        rules = [(0, (1, 2)), (0, (1, 3)), (0, (2, 2)), (0, (1, 2)), (0, 1), (1, 1)]
        self.makes(2, rules, [(0, (1, 2)), (0, (1, 3)), (0, (2, 2)), (0, 1), (1, 1)])

    def test_ways_without_symbols(self):
        self.makes(1, [(0,)], [])
        self.makes(2, [(0, 1), (1,), (0,)], [(0, 1)])
        self.makes(1, [(0, 0), (0,), (0, 0, 0)], [(0, 0), (0, 0, 0)])

    def test_hollow_through_others(self):
        rules = [(0, 1, "a"), (1, 2, 3), (2, 3, 3), (3,)]
        self.makes(4, rules, [(0, 1, "a"), (0, "a"), (1, 2, 3), (1, 2), (1, 3), (2, 3, 3), (2, 3)])

    def test_idle_parts_stay(self):
        rules = [(0, 1, 2), (1,), (2, 2, "c"), (3, 1, 3), (4, "d")]
        self.makes(5, rules, [(0, 1, 2), (0, 2), (2, 2, "c"), (3, 1, 3), (3, 3), (4, "d")])

    def test_just_256_ways(self):
        rules = ones(7, 6, 5, 4, 3, 2, 1) + [(1,), (1, "a")]
        self.makes(2, rules, ones(7, 6, 5, 4, 3, 2, 1) + [(1, "a")])

    def test_one_way_more(self):
        rules = ones(7, 6, 5, 4, 3, 2, 1) + [(1,), (1, "a")]
        self.refuses(2, rules + [(1, "a")])
        self.refuses(2, rules + [(0,)])
        self.refuses(2, [(1,)] + rules)

    def test_a_way_without_symbols_is_counted(self):
        self.refuses(2, ones(8) + [(1,)])
        self.refuses(2, ones(7, 7) + [(1,)])
        self.makes(2, ones(7, 6, 5, 4, 3, 2, 1) + [(1,), (0,)], ones(7, 6, 5, 4, 3, 2, 1))

    def test_as_many_ways_as_can_be(self):
        self.refuses(2, ones(*[8] * 59) + [(1,)])

    def test_just_60_rules(self):
        rules = [(0, (k, k)) for k in range(60)]
        self.makes(1, rules, rules)
        rules = [(1,)] + [(0, 1, (k, k)) for k in range(30)]
        wanted = [(0, *front, (k, k)) for k in range(30) for front in ((1,), ())]
        self.makes(2, rules, wanted)
        self.makes(2, rules + [(0, (7, 7)), (1,), (0, 1, (29, 29))], wanted)

    def test_one_rule_more(self):
        rules = [(1,)] + [(0, 1, (k, k)) for k in range(30)]
        self.refuses(2, rules + [(0, "a")])
        self.refuses(2, [(0, "a")] + rules)
        self.refuses(2, rules + [(1, 0)])
        spread = [(1,), (0, 1, "a"), (0, 1, "b")] + [(0, (k, 255)) for k in range(57)]
        self.refuses(2, spread)
        self.assertEqual(ask_of(row_of(2, *spread[:-1]), full())[0][:3], [0, 2, 60])


if __name__ == "__main__":
    unittest.main()
