import unittest

from tests.helper import (
    CYCLIC, GROWING, HOLLOW, HUGE, LEFT_RECURSIVE, PRODUCTIVE, REACHABLE, USEFUL,
    ask, ask_of, grammar, load, row_of, set_of,
)


class Sets(unittest.TestCase):
    def members(self, k, size, *rules):
        told = ask_of(row_of(size, *rules), set_of(k))[0]
        self.assertEqual(told[0], 0)
        self.assertEqual(told[1], len(told) - 2)
        return told[2:]

    def test_new_object(self):
        told = ask(*[set_of(k) for k in range(7)])
        self.assertEqual(told, [[0, 0], [0, 0], [0, 1, 0], [0, 0], [0, 0], [0, 0], [0, 0]])

    def test_k_outside(self):
        for k in (-1, 7, -HUGE, HUGE):
            self.assertEqual(ask_of(row_of(2, (0, 1), (1,)), set_of(k), set_of(0)), [[-5], [0, 2, 0, 1]])

    def test_refusal_changes_nothing(self):
        row = row_of(2, (0, 1), (1,))
        self.assertEqual(ask_of(row, set_of(7), grammar()), [[-5], [0] + row])

    def test_hollow(self):
        rules = [(0, 1, 2), (1, 2, 2), (2,), (3, 2, "a"), (4, 4), (4, 1, 4), (5, "a"), (5, 1, 2, 1)]
        self.assertEqual(self.members(HOLLOW, 6, *rules), [0, 1, 2, 5])

    def test_hollow_by_a_rule_told_last(self):
        self.assertEqual(self.members(HOLLOW, 4, (0, 1), (1, 2), (2, 3), (3,)), [0, 1, 2, 3])

    def test_hollow_none(self):
        self.assertEqual(self.members(HOLLOW, 2, (0, 1, "a"), (1, (0, 255))), [])

    def test_hollow_need_not_be_reachable(self):
        self.assertEqual(self.members(HOLLOW, 2, (0, "a"), (1,)), [1])

    def test_productive(self):
        rules = [(0, 1, "a"), (1, 2), (2, (0, 0)), (3, 3), (4, 1, 3), (5, 4), (5, 5, "a"), (6,)]
        self.assertEqual(self.members(PRODUCTIVE, 8, *rules), [0, 1, 2, 6])

    def test_productive_not_by_itself_alone(self):
        self.assertEqual(self.members(PRODUCTIVE, 2, (0, 1), (1, 0)), [])

    def test_reachable(self):
        rules = [(0, 1, "a"), (0, 3, 4), (1, 2, 1), (1,), (2, "b"), (3, "c"), (5, 0)]
        self.assertEqual(self.members(REACHABLE, 6, *rules), [0, 1, 2])

    def test_reachable_only_through_productive_rules(self):
        self.assertEqual(self.members(REACHABLE, 3, (0, 1, 2), (1, "a")), [0])
        self.assertEqual(self.members(REACHABLE, 3, (0, 1, 2), (1, "a"), (2,)), [0, 1, 2])

    def test_start_that_is_not_productive_is_reachable_alone(self):
        rules = [(0, 0, 1), (1, "a")]
        self.assertEqual(self.members(REACHABLE, 2, *rules), [0])
        self.assertEqual(self.members(USEFUL, 2, *rules), [])

    def test_useful(self):
        rules = [(0, 1), (0, 2), (1, "a"), (2, 2), (3, "b")]
        self.assertEqual(self.members(USEFUL, 4, *rules), [0, 1])

    def test_useful_none_though_some_are_productive(self):
        self.assertEqual(self.members(USEFUL, 2, (1, "a")), [])

    def test_cyclic(self):
        self.assertEqual(self.members(CYCLIC, 1, (0, 0), (0, "a")), [0])
        self.assertEqual(self.members(CYCLIC, 3, (0, 1), (1, 2), (2, 0), (2, "a")), [0, 1, 2])
        self.assertEqual(self.members(CYCLIC, 3, (0, 1), (1, 1), (1, 2), (2, "a")), [1])

    def test_cyclic_with_hollow_symbols_on_both_sides(self):
        rules = [(0, 1, 0, 2), (0, "a"), (1,), (2,)]
        self.assertEqual(self.members(CYCLIC, 3, *rules), [0])
        self.assertEqual(self.members(CYCLIC, 3, (0, 1, 0, 2), (0, "a"), (1,), (2, "a")), [])
        self.assertEqual(self.members(CYCLIC, 3, (0, 1, 0, 2), (0, "a"), (1, "a"), (2,)), [])

    def test_cyclic_another_of_the_same_is_another_symbol(self):
        self.assertEqual(self.members(CYCLIC, 1, (0, 0, 0), (0, "a")), [])
        self.assertEqual(self.members(CYCLIC, 1, (0, 0, 0), (0,)), [0])

    def test_cyclic_not_with_a_range(self):
        self.assertEqual(self.members(CYCLIC, 2, (0, 0, "a"), (0, "a", 0), (0,), (1, 1, "a"), (1,)), [])

    def test_cyclic_only_through_productive_rules(self):
        self.assertEqual(self.members(CYCLIC, 1, (0, 0)), [])
        self.assertEqual(self.members(CYCLIC, 2, (0, 1), (1, 0), (1, 1)), [])

    def test_cyclic_need_not_be_reachable(self):
        self.assertEqual(self.members(CYCLIC, 2, (0, "a"), (1, 1), (1,)), [1])

    def test_growing(self):
        rules = [(0, 1), (1,), (1, 1), (2, 1, 3), (3, (5, 5)), (4, 4, "a"), (5, 4, "a"), (5,)]
        self.assertEqual(self.members(GROWING, 6, *rules), [2, 3])

    def test_growing_beside_hollow(self):
        self.assertEqual(self.members(GROWING, 2, (0,), (0, 1, 0), (1, "a"), (1,)), [0, 1])

    def test_growing_not_by_a_rule_that_is_not_productive(self):
        self.assertEqual(self.members(GROWING, 2, (0,), (0, "a", 1)), [])

    def test_growing_none(self):
        self.assertEqual(self.members(GROWING, 2, (0, 1, 1), (1,)), [])

    def test_left_recursive_in_each_way(self):
        self.assertEqual(self.members(LEFT_RECURSIVE, 1, (0, 0, "a"), (0, "b")), [0])
        self.assertEqual(self.members(LEFT_RECURSIVE, 2, (0, 1, 0, "a"), (0, "b"), (1,)), [0])
        self.assertEqual(self.members(LEFT_RECURSIVE, 2, (0, 1, "a"), (1, 0, "b"), (1, "c")), [0, 1])

    def test_left_recursive_none(self):
        self.assertEqual(self.members(LEFT_RECURSIVE, 2, (0, "a", 0), (0, 1), (1, "b", 1), (1,)), [])
        self.assertEqual(self.members(LEFT_RECURSIVE, 2, (0, 1, 0), (0, "a"), (1, "b")), [])

    def test_left_recursive_only_through_productive_rules(self):
        self.assertEqual(self.members(LEFT_RECURSIVE, 2, (0, 0, "a"), (1, 1, 0), (1, "b")), [])

    def test_all_twenty_ascending(self):
        rules = [(a, (a + 7) % 20) for a in range(20)] + [(13,)]
        everyone = list(range(20))
        for k in (HOLLOW, PRODUCTIVE, REACHABLE, USEFUL, CYCLIC, LEFT_RECURSIVE):
            self.assertEqual(self.members(k, 20, *rules), everyone)
        self.assertEqual(self.members(GROWING, 20, *rules), [])

    def test_a_second_load_forgets_the_first_grammar(self):
        told = ask(load(row_of(2, (0, 1), (1,))), set_of(HOLLOW), load(row_of(3, (2,))), set_of(HOLLOW))
        self.assertEqual(told, [[0], [0, 2, 0, 1], [0], [0, 1, 2]])


if __name__ == "__main__":
    unittest.main()
