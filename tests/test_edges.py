import unittest

from tests.helper import HUGE, ask, ask_of, first, follow, grammar, least, left, row_of


class NoSuchNonterminal(unittest.TestCase):
    def test_both_edges(self):
        for call in (first, follow, left, least):
            for size in (1, 2, 20):
                row = row_of(size, (0, "a"))
                for a in (-1, size, -HUGE, HUGE):
                    self.assertEqual(ask_of(row, call(a), grammar()), [[-4], [0] + row])

    def test_last_nonterminal_is_taken(self):
        for call in (first, follow, left):
            for size in (1, 2, 20):
                told = ask_of(row_of(size, (0, "a")), call(size - 1), call(0))
                self.assertEqual([answer[0] for answer in told], [0, 0])

    def test_new_object(self):
        told = ask(first(0), first(1), follow(0), follow(1), left(0), left(1), least(1), least(-1))
        self.assertEqual(told, [[0, 0], [-4], [0, 0, 0], [-4], [0, 0, 0], [-4], [-4], [-4]])

    def test_edge_moves_with_the_grammar(self):
        told = ask_of(row_of(3), first(2), [0, 2, 1, 0], first(2))
        self.assertEqual(told, [[0, 0], [0], [-4]])


class First(unittest.TestCase):
    def ranges(self, a, size, *rules):
        told = ask_of(row_of(size, *rules), first(a))[0]
        self.assertEqual(told[0], 0)
        self.assertEqual(told[1] * 2, len(told) - 2)
        return told[2:]

    def test_ranges_apart(self):
        self.assertEqual(self.ranges(0, 1, (0, (10, 20)), (0, (22, 30))), [10, 20, 22, 30])

    def test_ranges_ascending(self):
        rules = [(0, (22, 30)), (0, (10, 20)), (0, (0, 3))]
        self.assertEqual(self.ranges(0, 1, *rules), [0, 3, 10, 20, 22, 30])

    def test_ranges_that_touch(self):
        self.assertEqual(self.ranges(0, 1, (0, (21, 30)), (0, (10, 20))), [10, 30])

    def test_ranges_that_overlap(self):
        self.assertEqual(self.ranges(0, 1, (0, (10, 20)), (0, (15, 30))), [10, 30])
        self.assertEqual(self.ranges(0, 1, (0, (10, 20)), (0, (20, 30))), [10, 30])

    def test_range_within_another(self):
        self.assertEqual(self.ranges(0, 1, (0, (10, 40)), (0, (15, 30)), (0, (35, 36))), [10, 40])

    def test_gap_closed_by_a_third(self):
        rules = [(0, (10, 19)), (0, (21, 30)), (0, (20, 20))]
        self.assertEqual(self.ranges(0, 1, *rules), [10, 30])

    def test_edge_bytes(self):
        self.assertEqual(self.ranges(0, 1, (0, (0, 0)), (0, (255, 255))), [0, 0, 255, 255])
        self.assertEqual(self.ranges(0, 1, (0, (0, 255))), [0, 255])
        self.assertEqual(self.ranges(0, 1, (0, (128, 255)), (0, (0, 127))), [0, 255])

    def test_most_ranges(self):
        rules = [(0, (4 * k, 4 * k + 1)) for k in range(60)]
        told = [number for k in range(60) for number in (4 * k, 4 * k + 1)]
        self.assertEqual(self.ranges(0, 1, *rules), told)

    def test_only_the_first_symbol_if_it_is_not_hollow(self):
        self.assertEqual(self.ranges(0, 2, (0, "a", "b"), (0, 1, "c"), (1, "e")), [97, 97, 101, 101])

    def test_hollow_symbols_in_a_row(self):
        rules = [(0, 1, 2, 3, "z"), (1,), (1, "a"), (2,), (2, "c"), (3, "e"), (3, 1, 2)]
        self.assertEqual(self.ranges(0, 4, *rules), [97, 97, 99, 99, 101, 101, 122, 122])

    def test_hollow_symbols_up_to_one_that_is_not(self):
        rules = [(0, 1, 2, 3, "z"), (1,), (1, "a"), (2, "c"), (3, "e"), (3,)]
        self.assertEqual(self.ranges(0, 4, *rules), [97, 97, 99, 99])

    def test_none_if_only_the_empty_piece(self):
        self.assertEqual(self.ranges(0, 2, (0, 1, 1), (1,)), [])

    def test_none_if_not_productive(self):
        self.assertEqual(self.ranges(0, 1, (0, "a", 0)), [])

    def test_nothing_by_a_rule_that_is_not_productive(self):
        self.assertEqual(self.ranges(0, 2, (0, "a", 1), (0, "c")), [99, 99])
        self.assertEqual(self.ranges(0, 4, (0, 2, 3, 1), (0, "c"), (2, "d"), (2,), (3, "e")), [99, 99])

    def test_not_reachable(self):
        self.assertEqual(self.ranges(1, 2, (0, "a"), (1, "b", 1), (1, 0)), [97, 98])

    def test_start_is_not_useful(self):
        self.assertEqual(self.ranges(1, 2, (0, 0), (1, "b")), [98, 98])

    def test_through_others_that_turn_round(self):
        rules = [(0, 1, "x"), (1, 2, "y"), (2, 0, "z"), (2, "a"), (1, "c")]
        for a in range(3):
            self.assertEqual(self.ranges(a, 3, *rules), [97, 97, 99, 99])

    def test_long_chain(self):
        rules = [(a, a + 1) for a in range(19)] + [(19, "q")]
        self.assertEqual(self.ranges(0, 20, *rules), [113, 113])


class Follow(unittest.TestCase):
    def told(self, a, size, *rules):
        told = ask_of(row_of(size, *rules), follow(a))[0]
        self.assertEqual(told[0], 0)
        self.assertEqual(told[2] * 2, len(told) - 3)
        return (told[1], told[3:])

    def test_end_follows_the_start(self):
        self.assertEqual(self.told(0, 1, (0, "a")), (1, []))

    def test_start_is_not_useful(self):
        rules = [(0, 1, "a", 0), (1, "b"), (2, 1, "c")]
        for a in range(3):
            self.assertEqual(self.told(a, 3, *rules), (0, []))

    def test_byte_behind(self):
        self.assertEqual(self.told(1, 2, (0, 1, "a"), (1, "b")), (0, [97, 97]))

    def test_only_the_next_symbol_if_it_is_not_hollow(self):
        self.assertEqual(self.told(1, 3, (0, 1, 2, "z"), (1, "b"), (2, "c", "d")), (0, [99, 99]))

    def test_end_of_a_rule(self):
        self.assertEqual(self.told(1, 2, (0, "a", 1), (1, "b")), (1, []))
        self.assertEqual(self.told(2, 3, (0, 1, "a"), (1, "b", 2), (2, "c")), (0, [97, 97]))

    def test_end_through_a_chain(self):
        rules = [(a, "x", a + 1) for a in range(19)] + [(19, "y")]
        self.assertEqual(self.told(19, 20, *rules), (1, []))

    def test_hollow_symbols_behind(self):
        rules = [(0, 1, 2, 3), (1, "b"), (2, "d"), (2,), (3, "f"), (3,)]
        self.assertEqual(self.told(1, 4, *rules), (1, [100, 100, 102, 102]))
        self.assertEqual(self.told(2, 4, *rules), (1, [102, 102]))
        self.assertEqual(self.told(3, 4, *rules), (1, []))

    def test_hollow_symbols_and_a_range_behind(self):
        rules = [(0, 1, 2, 3, (0, 0)), (1, "b"), (2, "d"), (2,), (3, "f"), (3,)]
        self.assertEqual(self.told(1, 4, *rules), (0, [0, 0, 100, 100, 102, 102]))

    def test_one_behind_that_is_not_hollow_keeps_the_end_off(self):
        rules = [(0, 1, 2, 3), (1, "b"), (2, "d"), (2,), (3, "f")]
        self.assertEqual(self.told(1, 4, *rules), (0, [100, 100, 102, 102]))

    def test_several_places_in_one_rule(self):
        self.assertEqual(self.told(1, 2, (0, 1, 1, "z", 1), (1, "b")), (1, [98, 98, 122, 122]))

    def test_ranges_joined(self):
        rules = [(0, 1, (10, 20)), (0, 1, (21, 30)), (0, 1, (25, 28)), (0, 1, (32, 32)), (1,)]
        self.assertEqual(self.told(1, 2, *rules), (0, [10, 30, 32, 32]))

    def test_edge_bytes(self):
        self.assertEqual(self.told(1, 2, (0, 1, (0, 0)), (0, 1, (255, 255)), (1,)), (0, [0, 0, 255, 255]))
        self.assertEqual(self.told(1, 2, (0, 1, (0, 254)), (0, 1, (255, 255)), (1,)), (0, [0, 255]))

    def test_start_within_a_rule(self):
        self.assertEqual(self.told(0, 1, (0, "(", 0, ")"), (0,)), (1, [41, 41]))

    def test_not_reachable(self):
        rules = [(0, "a", 1), (1, "b"), (2, 1, "c"), (2, 2, "d"), (2,)]
        self.assertEqual(self.told(1, 3, *rules), (1, []))
        self.assertEqual(self.told(2, 3, *rules), (0, []))

    def test_not_productive(self):
        rules = [(0, 1, 2), (0, 1, "a"), (1, "b"), (2, 2)]
        self.assertEqual(self.told(1, 3, *rules), (0, [97, 97]))
        self.assertEqual(self.told(2, 3, *rules), (0, []))

    def test_rules_that_turn_round(self):
        rules = [(0, 1, "x"), (0, 2), (1, "a", 2), (2, "b", 1), (2, "c"), (1, "d")]
        self.assertEqual(self.told(1, 3, *rules), (1, [120, 120]))
        self.assertEqual(self.told(2, 3, *rules), (1, [120, 120]))


if __name__ == "__main__":
    unittest.main()
