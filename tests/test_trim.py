import unittest

from tests.helper import ask, ask_of, grammar, load, row_of, trim


class Trim(unittest.TestCase):
    def told(self, row, wanted_row, nonterminals, rules):
        wanted = [0] + wanted_row + [len(nonterminals)] + nonterminals + [len(rules)] + rules
        self.assertEqual(ask_of(row, trim(), grammar(), trim()), [wanted, [0] + row, wanted])

    def test_new_object(self):
        self.assertEqual(ask(trim()), [[0, 1, 0, 1, 0, 0]])

    def test_nothing_to_trim(self):
        row = row_of(3, (0, 1, "a", 2), (1,), (2, 0), (2, (3, 200)), (1, 1, 1))
        self.told(row, row, [0, 1, 2], [0, 1, 2, 3, 4])

    def test_start_that_is_not_useful(self):
        self.told(row_of(1, (0, 0)), [1, 0], [0], [])
        self.told(row_of(3, (0, 0, 1), (1, "a"), (2, 1), (1, 2)), [1, 0], [0], [])
        self.told(row_of(2, (1, "a")), [1, 0], [0], [])

    def test_left_out_in_the_middle(self):
        rules = [(3, "x"), (1, "a"), (0, 2, 4), (0, 3, 1, 5), (2, 4, "b", 2), (2,), (4, 2, "c"), (3, 3), (1, 1), (4, 0)]
        wanted = [(0, 1, 2), (1, 2, "b", 1), (1,), (2, 1, "c"), (2, 0)]
        self.told(row_of(6, *rules), row_of(3, *wanted), [0, 2, 4], [2, 4, 5, 6, 9])

    def test_rules_left_out_of_nonterminals_that_stay(self):
        rules = [(0, 1), (0, 2), (0, "a"), (1, 2, 1), (1, "b"), (0, 0, 2), (1, 1, "c")]
        self.told(row_of(3, *rules), row_of(2, (0, 1), (0, "a"), (1, "b"), (1, 1, "c")), [0, 1], [0, 2, 4, 6])

    def test_the_last_and_the_first_behind_the_start_left_out(self):
        rules = [(1, "z"), (0, 2), (2, "a"), (3, 2)]
        self.told(row_of(4, *rules), row_of(2, (0, 1), (1, "a")), [0, 2], [1, 2])

    def test_rules_that_are_the_same(self):
        rules = [(0, 2, "a"), (1, "b"), (0, 2, "a"), (2,), (2,), (1, "b")]
        self.told(row_of(3, *rules), row_of(2, (0, 1, "a"), (0, 1, "a"), (1,), (1,)), [0, 2], [0, 2, 3, 4])

    def test_reached_only_beside_one_that_is_not_productive(self):
        rules = [(0, "a"), (0, 1, 2), (1, "b"), (2, 2)]
        self.told(row_of(3, *rules), row_of(1, (0, "a")), [0], [0])

    def test_turns_stay(self):
        rules = [(0, 0), (0, 2), (2, 0), (2, 2, 0), (2,), (1, 1), (1,)]
        wanted = [(0, 0), (0, 1), (1, 0), (1, 1, 0), (1,)]
        self.told(row_of(3, *rules), row_of(2, *wanted), [0, 2], [0, 1, 2, 3, 4])

    def test_numbers_of_ranges_stay_as_they_are(self):
        rules = [(0, (0, 1), 2, (1, 2)), (2, (2, 2), (0, 2))]
        self.told(row_of(3, *rules), row_of(2, (0, (0, 1), 1, (1, 2)), (1, (2, 2), (0, 2))), [0, 2], [0, 1])

    def test_most_of_all(self):
        rules = [(a,) + ((a + 1) % 20,) * 4 + ((a, 255),) * 4 for a in range(20)] + [(a,) for a in range(20)] * 2
        row = row_of(20, *rules)
        self.told(row, row, list(range(20)), list(range(60)))

    def test_every_second_one(self):
        rules = [(a, a + 2) for a in range(18)] + [(18, "a"), (19, "b")]
        wanted = [(a, a + 1) for a in range(9)] + [(9, "a")]
        self.told(row_of(20, *rules), row_of(10, *wanted), list(range(0, 20, 2)), list(range(0, 20, 2)))

    def test_a_second_load(self):
        told = ask(load(row_of(2, (0, "a"))), trim(), load(row_of(2, (0, 1), (1,))), trim())
        wanted = [0] + row_of(2, (0, 1), (1,)) + [2, 0, 1, 2, 0, 1]
        self.assertEqual(told, [[0], [0, 1, 1, 0, 1, 1, 97, 97, 1, 0, 1, 0], [0], wanted])


if __name__ == "__main__":
    unittest.main()
