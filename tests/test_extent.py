import unittest

from tests.helper import ask, ask_of, extent, grammar, load, row_of


class Extent(unittest.TestCase):
    def extent(self, size, *rules):
        """0, 2, or the length in a list."""
        told = ask_of(row_of(size, *rules), extent())[0]
        self.assertEqual(told[0], 0)
        if told[1] == 1:
            self.assertEqual(len(told), 3)
            return told[2:]
        self.assertEqual(len(told), 2)
        return told[1]

    def test_as_it_is_told(self):
        self.assertEqual(ask(extent()), [[0, 0]])
        self.assertEqual(ask_of(row_of(1, (0, "a", "b")), extent()), [[0, 1, 2]])
        self.assertEqual(ask_of(row_of(1, (0, "a", 0), (0,)), extent()), [[0, 2]])

    def test_changes_nothing(self):
        row = row_of(2, (0, "a"), (1, 1))
        self.assertEqual(ask_of(row, extent(), grammar(), extent()), [[0, 1, 1], [0] + row, [0, 1, 1]])

    def test_no_text(self):
        self.assertEqual(self.extent(1, (0, 0)), 0)
        self.assertEqual(self.extent(1, (0, 0, "a")), 0)
        self.assertEqual(self.extent(3, (0, 1, 2), (1, "a"), (1, 1, "a"), (2, 2, "b")), 0)
        self.assertEqual(self.extent(2, (1, "a"), (1, "b", 1)), 0)

    def test_only_the_empty_text(self):
        self.assertEqual(self.extent(1, (0,)), [0])
        self.assertEqual(self.extent(3, (0, 1, 2), (1, 2), (1,), (2, 1, 1)), [0])
        self.assertEqual(self.extent(1, (0, 0, 0), (0,)), [0])

    def test_the_longest_of_finitely_many(self):
        self.assertEqual(self.extent(1, (0, "a", "b", "c"), (0, "a"), (0,)), [3])
        self.assertEqual(self.extent(1, (0, "a"), (0,), (0, (0, 255), (0, 255))), [2])
        rules = [(0, 1, 2, 1), (1, "a"), (1, "a", 2), (2, "b", "b", "b"), (2,)]
        self.assertEqual(self.extent(3, *rules), [11])
        self.assertEqual(self.extent(3, *reversed(rules)), [11])

    def test_of_the_start_not_of_any_other(self):
        self.assertEqual(self.extent(2, (0, "a"), (0, 1), (1, "b", "b"), (1,)), [2])
        self.assertEqual(self.extent(2, (0, "a"), (1, "b", "b", 0)), [1])

    def test_most_symbols(self):
        self.assertEqual(self.extent(1, (0,) + ((0, 255),) * 8), [8])

    def test_great_lengths(self):
        rules = [(a,) + (a + 1,) * 8 for a in range(19)] + [(19,) + ("a",) * 8]
        self.assertEqual(self.extent(20, *rules), [8 ** 20])
        self.assertEqual(self.extent(20, *rules, (0, "b"), (7,), (19, "c")), [8 ** 20])
        self.assertEqual(self.extent(20, *reversed(rules)), [8 ** 20])

    def test_great_length_past_a_turn_over_the_same_piece(self):
        rules = [(a,) + (a + 1,) * 8 for a in range(19)] + [(19,) + ("a",) * 8]
        self.assertEqual(self.extent(20, *rules, *[(a, a) for a in range(20)]), [8 ** 20])

    def test_finitely_many_with_a_turn_over_the_same_piece(self):
        self.assertEqual(self.extent(1, (0, 0), (0, "a", "b")), [2])
        self.assertEqual(self.extent(2, (0, 1, 0), (0, "a"), (1,)), [1])
        self.assertEqual(self.extent(3, (0, 1, 0, 2, 1), (0, "a"), (1,), (2, 1), (2, 2)), [1])
        self.assertEqual(self.extent(4, (0, 1), (1, 3, 2), (2, 0, 3), (2, "a", "b"), (0, "c"), (3,), (3, 3)), [2])

    def test_the_longest_comes_from_anywhere_in_the_turn(self):
        rules = [(0, 1), (1, 2), (2, 0), (0, "a"), (1, "b", "b"), (2, "c")]
        self.assertEqual(self.extent(3, *rules), [2])
        self.assertEqual(self.extent(3, *rules, (2, "d", "d", "d")), [3])

    def test_growing_beside_a_step_that_leads_out_of_the_turn(self):
        self.assertEqual(self.extent(2, (0, 0), (0, "a", 1), (1, 1), (1, "b"), (1,)), [2])
        self.assertEqual(self.extent(3, (0, 1), (1, 0), (1, 2, 2, "c"), (2, "b", "b")), [5])

    def test_infinitely_many_directly(self):
        self.assertEqual(self.extent(1, (0, 0, "a"), (0, "b")), 2)
        self.assertEqual(self.extent(1, (0, "a", 0), (0,)), 2)
        self.assertEqual(self.extent(1, (0, "a", 0, "a"), (0, "b")), 2)
        self.assertEqual(self.extent(1, (0, 0, 0), (0, "b")), 2)
        self.assertEqual(self.extent(2, (0, 0, 1), (0, "b"), (1, "c")), 2)

    def test_infinitely_many_through_others(self):
        self.assertEqual(self.extent(2, (0, 1), (1, "a", 0), (1, "b")), 2)
        self.assertEqual(self.extent(2, (0, 1, "a"), (1, 0), (1, "b")), 2)
        self.assertEqual(self.extent(4, (0, "x", 1), (1, 2), (2, 3), (3, 1), (3, 2, "y"), (3, "z")), 2)
        self.assertEqual(self.extent(20, *[(a, (a + 1) % 20) for a in range(20)], (7, 8, "a"), (19,)), 2)

    def test_infinitely_many_only_below_the_start(self):
        self.assertEqual(self.extent(3, (0, "a"), (0, 1), (1, 2, "b"), (2, 2, "c"), (2,)), 2)

    def test_infinitely_many_by_a_hollow_one_that_can_be_not_empty(self):
        self.assertEqual(self.extent(2, (0, 0, 1), (0,), (1,), (1, "a")), 2)
        self.assertEqual(self.extent(2, (0, 1, 0), (0, "b"), (1, "a"), (1,)), 2)
        self.assertEqual(self.extent(3, (0, 2, 0), (0, "b"), (1, "a"), (2,), (2, 2), (2, 1)), 2)
        self.assertEqual(self.extent(1, (0, 0, 0), (0,), (0, "a")), 2)

    def test_a_hollow_one_that_is_never_more_than_empty(self):
        self.assertEqual(self.extent(3, (0, 1, 0), (0, "b"), (1,), (1, "a", 2), (2, 2, "c")), [1])

    def test_idle_parts_that_are_not_reachable(self):
        self.assertEqual(self.extent(2, (0, "a"), (1, 1, "b"), (1, "b")), [1])
        self.assertEqual(self.extent(2, (0, "a"), (1, 1, "b"), (1, 0)), [1])

    def test_idle_parts_that_are_not_productive(self):
        self.assertEqual(self.extent(2, (0, "a"), (0, 1), (1, 1, "b")), [1])
        self.assertEqual(self.extent(2, (0, "a"), (0, 0, "b", 1), (1, 1)), [1])

    def test_idle_parts_reached_only_beside_one_that_is_not_productive(self):
        self.assertEqual(self.extent(3, (0, "a"), (0, 1, 2), (1, 1, "b"), (1, "b"), (2, 2)), [1])

    def test_a_second_load(self):
        told = ask(load(row_of(1, (0, 0, "a"), (0,))), extent(), load(row_of(1, (0,))), extent())
        self.assertEqual(told, [[0], [0, 2], [0], [0, 1, 0]])


if __name__ == "__main__":
    unittest.main()
