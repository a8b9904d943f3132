import unittest

from tests.helper import ask_of, left, row_of


class Left(unittest.TestCase):
    def told(self, a, size, *rules):
        told = ask_of(row_of(size, *rules), left(a))[0]
        self.assertEqual(told[0], 0)
        self.assertEqual(told[2], len(told) - 3)
        return (told[1], told[3:])

    def test_none(self):
        self.assertEqual(self.told(0, 1, (0, "a")), (0, []))
        self.assertEqual(self.told(0, 1, (0, "a", 0), (0,)), (0, []))

    def test_directly(self):
        self.assertEqual(self.told(0, 1, (0, 0, "a"), (0, "b")), (1, [0]))

    def test_hiddenly(self):
        self.assertEqual(self.told(0, 2, (0, 1, 0, "a"), (0, "b"), (1,)), (2, [0, 1]))

    def test_hiddenly_behind_several(self):
        rules = [(0, 1, 2, 1, 0), (0, "b"), (1,), (1, "x"), (2, 1, 1)]
        self.assertEqual(self.told(0, 3, *rules), (2, [0, 1, 2]))

    def test_not_behind_one_that_is_not_hollow(self):
        self.assertEqual(self.told(0, 3, (0, 1, 2, 0), (0, "b"), (1,), (2, "x")), (0, [1, 2]))

    def test_not_behind_a_range(self):
        self.assertEqual(self.told(0, 2, (0, 1, "a", 0), (0, "b"), (1,)), (0, [1]))

    def test_through_others(self):
        rules = [(0, 1, "a"), (1, 2, "b"), (2, 0, "c"), (2, "d")]
        for a in range(3):
            self.assertEqual(self.told(a, 3, *rules), (4, [0, 1, 2]))

    def test_through_others_behind_hollow_symbols(self):
        rules = [(0, 2, 1, "a"), (1, 2, 0, "b"), (1, "c"), (2,)]
        self.assertEqual(self.told(0, 3, *rules), (4, [0, 1, 2]))
        self.assertEqual(self.told(1, 3, *rules), (4, [0, 1, 2]))
        self.assertEqual(self.told(2, 3, *rules), (0, []))

    def test_leading_into_a_turn_is_not_being_in_it(self):
        rules = [(0, 1, "a"), (1, 1, "b"), (1, 2), (2, 1, "c"), (2, "d")]
        self.assertEqual(self.told(0, 3, *rules), (0, [1, 2]))
        self.assertEqual(self.told(1, 3, *rules), (5, [1, 2]))
        self.assertEqual(self.told(2, 3, *rules), (4, [1, 2]))

    def test_a_step_to_itself_is_not_through_others(self):
        self.assertEqual(self.told(0, 2, (0, 0, "a"), (0, 1, "b"), (1, "c")), (1, [0, 1]))

    def test_directly_and_hiddenly(self):
        self.assertEqual(self.told(0, 1, (0, 0, 0), (0,)), (3, [0]))
        self.assertEqual(self.told(0, 1, (0, 0, 0), (0, "a")), (1, [0]))

    def test_hiddenly_and_through_others(self):
        rules = [(0, 1, 0), (0, "a"), (1, 0, "b"), (1,)]
        self.assertEqual(self.told(0, 2, *rules), (6, [0, 1]))
        self.assertEqual(self.told(1, 2, *rules), (4, [0, 1]))

    def test_all_three(self):
        rules = [(0, 0, "x"), (0, 1, 0), (0, "a"), (1, 0, "b"), (1,)]
        self.assertEqual(self.told(0, 2, *rules), (7, [0, 1]))

    def test_only_through_productive_rules(self):
        self.assertEqual(self.told(0, 2, (0, 0, 1), (0, "a")), (0, []))
        self.assertEqual(self.told(0, 1, (0, 0, "a")), (0, []))
        self.assertEqual(self.told(0, 3, (0, 1, 2), (0, "a"), (1, 0), (2, 2)), (0, []))

    def test_not_reachable(self):
        self.assertEqual(self.told(1, 3, (0, "a"), (1, 1, "b"), (1, 2), (2,)), (1, [1, 2]))

    def test_long_chain_ascending(self):
        rules = [(a, (a + 13) % 20, "x") for a in range(20)] + [(5, "y")]
        for a in range(20):
            self.assertEqual(self.told(a, 20, *rules), (4, list(range(20))))


if __name__ == "__main__":
    unittest.main()
