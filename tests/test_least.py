import unittest

from tests.helper import HUGE, ask, ask_of, grammar, least, load, row_of


def chain_of_eights(symbol):
    return [(a,) + (a + 1,) * 8 for a in range(19)] + [(19,) + (symbol,) * 8]


class Least(unittest.TestCase):
    def told(self, a, size, *rules):
        """The least text as a text of signs, 1 if there is none."""
        told = ask_of(row_of(size, *rules), least(a))[0]
        if told == [1]:
            return 1
        self.assertEqual(told[0], 0)
        self.assertEqual(told[1], told[2])
        self.assertEqual(told[2], len(told) - 3)
        return "".join(chr(byte) for byte in told[3:])

    def length(self, a, size, *rules):
        """The length of a least text that is too long to be told."""
        told = ask_of(row_of(size, *rules), least(a))[0]
        self.assertEqual((told[0], told[2:]), (0, [0]))
        return told[1]

    def test_not_productive(self):
        self.assertEqual(ask(least(0)), [[1]])
        self.assertEqual(self.told(0, 1, (0, 0)), 1)
        self.assertEqual(self.told(0, 2, (0, "a", 1), (1, 0)), 1)
        self.assertEqual(self.told(1, 2, (0, "a"), (1, 0, 1)), 1)
        self.assertEqual(ask_of(row_of(20), *[least(a) for a in range(20)]), [[1]] * 20)

    def test_no_such_nonterminal(self):
        for size in (1, 2, 20):
            row = row_of(size, *[(a,) for a in range(size)])
            told = ask_of(row, least(-1), least(size), least(-HUGE), least(HUGE), least(0), least(size - 1), grammar())
            self.assertEqual(told, [[-4]] * 4 + [[0, 0, 0]] * 2 + [[0] + row])

    def test_empty(self):
        self.assertEqual(ask_of([1, 1, 0, 0], least(0)), [[0, 0, 0]])
        self.assertEqual(self.told(0, 1, (0, "a"), (0,)), "")
        self.assertEqual(self.told(0, 3, (0, 1, 2, 1), (0, "a"), (1, 2, 2), (2, "b"), (2,)), "")

    def test_one_byte(self):
        self.assertEqual(ask_of(row_of(1, (0, (7, 9))), least(0)), [[0, 1, 1, 7]])
        self.assertEqual(ask_of(row_of(1, (0, (0, 255))), least(0)), [[0, 1, 1, 0]])
        self.assertEqual(ask_of(row_of(1, (0, (255, 255))), least(0)), [[0, 1, 1, 255]])

    def test_shorter_goes_before_smaller(self):
        self.assertEqual(self.told(0, 1, (0, "a", "a"), (0, "z")), "z")
        self.assertEqual(self.told(0, 1, (0, "z"), (0, "a", "a")), "z")
        self.assertEqual(self.told(0, 2, (0, 1), (0, "a", "a"), (1, "z")), "z")

    def test_smaller_byte_whatever_the_order_of_rules(self):
        self.assertEqual(self.told(0, 1, (0, "c"), (0, "a"), (0, "b")), "a")
        self.assertEqual(self.told(0, 1, (0, "a"), (0, "b"), (0, "c")), "a")
        self.assertEqual(self.told(0, 1, (0, "c"), (0, "b"), (0, "a")), "a")

    def test_first_place_where_they_differ(self):
        self.assertEqual(self.told(0, 1, (0, "b", "a", "a"), (0, "a", "z", "b"), (0, "a", "z", "a")), "aza")
        self.assertEqual(self.told(0, 1, (0, "a", "z", "a"), (0, "a", "y", "z"), (0, "b", "a", "a")), "ayz")

    def test_bytes_are_held_against_each_other_as_numbers(self):
        told = ask_of(row_of(1, (0, (10, 10)), (0, (9, 9)), (0, (200, 200))), least(0))
        self.assertEqual(told, [[0, 1, 1, 9]])
        told = ask_of(row_of(1, (0, (128, 255), (0, 0)), (0, (127, 127), (255, 255))), least(0))
        self.assertEqual(told, [[0, 2, 2, 127, 255]])

    def test_smaller_byte_from_deep_within(self):
        rules = [(0, "c", "x"), (0, 1, "y"), (1, "c"), (1, 2), (2, 3), (3, "d"), (3, 4), (4, "b"), (4, "e")]
        self.assertEqual(self.told(0, 5, *rules), "by")
        self.assertEqual(self.told(0, 5, *reversed(rules)), "by")

    def test_the_same_front_and_a_later_place_from_deep_within(self):
        rules = [(0, "a", 1), (0, 2, "d"), (1, "c"), (1, 3), (2, "a"), (3, "e"), (3, 4), (4, "b")]
        self.assertEqual(self.told(0, 5, *rules), "ab")
        rules = [(0, "a", 1), (0, 2, "c"), (1, "d"), (2, "b"), (2, 3), (3, 4), (4, "a")]
        self.assertEqual(self.told(0, 5, *rules), "ac")

    def test_parts_of_several_lengths(self):
        rules = [(0, 1, 2), (0, 2, 1), (1, "b"), (1, "a", "a"), (2, "b", "a"), (2, "a", "c")]
        self.assertEqual(self.told(0, 3, *rules), "acb")

    def test_empty_parts(self):
        rules = [(0, 1, "b", 1), (0, "c", 1), (1,), (1, "a")]
        self.assertEqual(self.told(0, 2, *rules), "b")

    def test_a_shorter_one_found_late(self):
        rules = [(0, 1, 1), (1, "a", 2), (2, "a", 3), (3, "a", "a"), (3,), (1, 4), (4, 5), (5, "z")]
        self.assertEqual(self.told(0, 6, *rules), "zz")

    def test_not_by_a_rule_that_is_not_productive(self):
        self.assertEqual(self.told(0, 2, (0, 1), (0, "b", "c"), (1, 1), (1, "a", 1)), "bc")

    def test_not_reachable(self):
        rules = [(0, 0), (1, "b", 2), (2, "c"), (2, "a")]
        self.assertEqual([self.told(a, 3, *rules) for a in range(3)], [1, "ba", "a"])

    def test_turning_round(self):
        self.assertEqual(self.told(0, 1, (0, 0), (0, "b"), (0, 0, 0), (0, "a", 0)), "b")
        self.assertEqual(self.told(0, 1, (0, 0, 0), (0, "a", "b"), (0, 0, "a"), (0, "b", "a")), "ab")
        self.assertEqual(self.told(0, 1, (0, 0, 0), (0,)), "")

    def test_turning_round_over_the_same_piece(self):
        rules = [(0, 1), (1, 2), (2, 0), (0, "c"), (1, "a"), (2, "b")]
        self.assertEqual([self.told(a, 3, *rules) for a in range(3)], ["a", "a", "a"])
        rules = [(0, 3, 1), (1, 2, 3), (2, 3, 0, 3), (0, "c"), (1, "b"), (2, "a"), (3,), (3, "A")]
        self.assertEqual([self.told(a, 4, *rules) for a in range(4)], ["a", "a", "a", ""])

    def test_long_chain_in_both_orders(self):
        rules = [(a, a + 1) for a in range(19)] + [(a, "z") for a in range(19)] + [(19, "q")]
        self.assertEqual(self.told(0, 20, *rules), "q")
        self.assertEqual(self.told(0, 20, *reversed(rules)), "q")

    def test_just_64(self):
        rules = [(0,) + (1,) * 8, (1,) + ("x",) * 8]
        self.assertEqual(self.told(0, 2, *rules), "x" * 64)
        rules += [(0,) + (1,) * 7 + (2,), (2,) + ("x",) * 7 + ("w",)]
        self.assertEqual(self.told(0, 3, *rules), "x" * 63 + "w")

    def test_just_65(self):
        rules = [(0,) + (1,) * 7 + (2,), (1,) + ("x",) * 8, (2, "x", 1)]
        self.assertEqual(self.length(0, 3, *rules), 65)
        self.assertEqual(self.told(0, 3, (0, 1, 1, 1, 1, 1, 1, 1, 2), (1,) + ("x",) * 8, (2,) + ("x",) * 7), "x" * 63)

    def test_65_that_yields_to_64(self):
        rules = [(0, "a", 1), (1,) + (2,) * 8, (2,) + ("x",) * 8, (0, 1), (0, "b", 1)]
        self.assertEqual(self.told(0, 3, *rules), "x" * 64)
        self.assertEqual(self.told(0, 3, *reversed(rules)), "x" * 64)

    def test_a_long_way_beside_a_short_one(self):
        rules = chain_of_eights("a") + [(5, "z")]
        self.assertEqual(self.length(0, 20, *rules), 8 ** 5)
        self.assertEqual(self.told(4, 20, *rules), "z" * 8)
        self.assertEqual(self.told(0, 20, *rules, (0, 6), (0, 5, 5)), "zz")

    def test_far_too_long_to_be_written_out(self):
        rules = chain_of_eights("a")
        for a in range(18):
            self.assertEqual(self.length(a, 20, *rules), 8 ** (20 - a))
        self.assertEqual(self.told(18, 20, *rules), "a" * 64)
        self.assertEqual(self.told(19, 20, *rules), "a" * 8)

    def test_the_shorter_of_two_that_are_far_too_long(self):
        rules = chain_of_eights("a") + [(0,) + (1,) * 7 + (2,)]
        self.assertEqual(self.length(0, 20, *rules), 7 * 8 ** 19 + 8 ** 18)
        rules = [(0, 1, "a")] + [(0, 1)] + chain_of_eights("a")[1:]
        self.assertEqual(self.length(0, 20, *rules), 8 ** 19)

    def test_a_second_load(self):
        told = ask(load(row_of(1, (0, "a"))), least(0), load(row_of(2, (0, 1), (1, "b"))), least(0), least(1))
        self.assertEqual(told, [[0], [0, 1, 1, 97], [0], [0, 1, 1, 98], [0, 1, 1, 98]])


if __name__ == "__main__":
    unittest.main()
