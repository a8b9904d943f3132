import unittest

from tests.helper import HUGE, ask, ask_of, grammar, row_of, take


class Take(unittest.TestCase):
    def test_k_neither_0_nor_1(self):
        row = row_of(3, (0, 1), (0, "a"), (1,), (2, 2))
        for k in (-1, 2, 3, -HUGE, HUGE):
            self.assertEqual(ask_of(row, take(k), grammar()), [[-5], [0] + row])

    def test_0_and_1_are_not_refused_with_minus_5(self):
        for k in (0, 1):
            try:
                told = ask(take(k))
            except NotImplementedError:
                continue
            self.assertNotEqual(told, [[-5]])

    def test_new_object(self):
        self.assertEqual(ask(take(2), grammar()), [[-5], [0, 1, 0]])


if __name__ == "__main__":
    unittest.main()
