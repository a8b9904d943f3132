import unittest

from tests.helper import Reference, ask_of, first, follow, left, row_of, set_of, told_bytes


class Numbers:
    """Always the same numbers, so that a failure comes again."""

    def __init__(self, seed):
        self.state = seed

    def below(self, limit):
        self.state = (self.state * 6364136223846793005 + 1442695040888963407) % 2 ** 64
        return (self.state >> 33) % limit


def some_symbol(numbers, size, weight):
    if numbers.below(10) < weight:
        return numbers.below(size)
    lo = numbers.below(256)
    return (lo, min(255, lo + numbers.below(4) * numbers.below(40)))


def some_rules(numbers, size, most_rules, most_symbols, weight):
    rules = []
    for _ in range(numbers.below(most_rules + 1)):
        symbols = [some_symbol(numbers, size, weight) for _ in range(numbers.below(most_symbols + 1))]
        rules.append((numbers.below(size), *symbols))
    return rules


class AgainstReference(unittest.TestCase):
    def compare(self, size, rules):
        known = Reference(size, *rules)
        calls = [set_of(k) for k in range(7)]
        wanted = []
        for k in range(7):
            members = known.set_of(k)
            wanted.append([0, len(members)] + members)
        for a in range(size):
            calls += [first(a), follow(a), left(a)]
            behind = known.follow(a)
            kinds, reached = known.left(a)
            wanted.append([0] + told_bytes(known.first(a)))
            wanted.append([0, int(256 in behind)] + told_bytes(behind))
            wanted.append([0, kinds, len(reached)] + reached)
        self.assertEqual(ask_of(row_of(size, *rules), *calls), wanted, (size, rules))

    def test_small_grammars(self):
        numbers = Numbers(1)
        for _ in range(1500):
            size = 1 + numbers.below(4)
            self.compare(size, some_rules(numbers, size, 7, 3, 3 + numbers.below(7)))

    def test_great_grammars(self):
        numbers = Numbers(2)
        for _ in range(60):
            size = 10 + numbers.below(11)
            self.compare(size, some_rules(numbers, size, 60, 1 + numbers.below(8), 5 + numbers.below(4)))


if __name__ == "__main__":
    unittest.main()
