import unittest

from tests.helper import (
    Reference, ask_of, extent, first, follow, full, grammar, least, left, row_of, set_of, take, told_bytes, trim,
)


class Numbers:
    """Always the same numbers, so that a failure comes again."""

    def __init__(self, seed):
        self.state = seed

    def below(self, limit):
        self.state = (self.state * 6364136223846793005 + 1442695040888963407) % 2 ** 64
        return (self.state >> 33) % limit


def some_symbol(numbers, size, weight):
    if numbers.below(10) < weight:
        return numbers.below(size)
    lo = numbers.below(256)
    return (lo, min(255, lo + numbers.below(4) * numbers.below(40)))


def some_rules(numbers, size, most_rules, most_symbols, weight):
    rules = []
    for _ in range(numbers.below(most_rules + 1)):
        symbols = [some_symbol(numbers, size, weight) for _ in range(numbers.below(most_symbols + 1))]
        rules.append((numbers.below(size), *symbols))
    return rules


def letters_only(numbers, rules):
    """Ranges of few bytes in the place of all ranges, so that many texts differ late."""
    fresh = []
    for owner, *symbols in rules:
        fresh.append((owner, *[s if isinstance(s, int) else (97 + numbers.below(3), 99) for s in symbols]))
    return fresh


class AgainstReference(unittest.TestCase):
    def compare(self, size, rules, takes=(), taken=None):
        """taken: the size and rules that are held after the takes."""
        row = row_of(size, *rules)
        size, rules = taken or (size, rules)
        known = Reference(size, *rules)
        calls = [set_of(k) for k in range(7)]
        wanted = []
        for k in range(7):
            members = known.set_of(k)
            wanted.append([0, len(members)] + members)
        for a in range(size):
            calls += [first(a), follow(a), left(a)]
            behind = known.follow(a)
            kinds, reached = known.left(a)
            wanted.append([0] + told_bytes(known.first(a)))
            wanted.append([0, int(256 in behind)] + told_bytes(behind))
            wanted.append([0, kinds, len(reached)] + reached)
        told = ask_of(row, *[take(k) for k in takes], grammar(), *calls)
        self.assertEqual(told, [[0]] * len(takes) + [[0] + row_of(size, *rules)] + wanted, (row, takes))

    def test_small_grammars(self):
        numbers = Numbers(1)
        for _ in range(1500):
            size = 1 + numbers.below(4)
            self.compare(size, some_rules(numbers, size, 7, 3, 3 + numbers.below(7)))

    def test_great_grammars(self):
        numbers = Numbers(2)
        for _ in range(60):
            size = 10 + numbers.below(11)
            self.compare(size, some_rules(numbers, size, 60, 1 + numbers.below(8), 5 + numbers.below(4)))

    def test_trim(self):
        numbers = Numbers(3)
        for _ in range(600):
            size = 1 + numbers.below(8)
            rules = some_rules(numbers, size, 14, 3, 3 + numbers.below(6))
            new_size, new_rules, stay, kept = Reference(size, *rules).trimmed()
            wanted = [0] + row_of(new_size, *new_rules) + [len(stay)] + stay + [len(kept)] + kept
            self.assertEqual(ask_of(row_of(size, *rules), trim()), [wanted], (size, rules))
            self.compare(size, rules, [0], (new_size, new_rules))

    def test_full(self):
        numbers = Numbers(4)
        great = 0
        for _ in range(1000):
            size = 1 + numbers.below(5)
            rules = some_rules(numbers, size, 16, 2 + numbers.below(7), 5 + numbers.below(5))
            row = row_of(size, *rules)
            wanted = Reference(size, *rules).full()
            if wanted is None:
                great += 1
                self.assertEqual(ask_of(row, full(), take(1), grammar()), [[-6], [-6], [0] + row], (size, rules))
            else:
                self.assertEqual(ask_of(row, full()), [[0] + row_of(size, *wanted)], (size, rules))
                self.compare(size, rules, [1], (size, wanted))
        self.assertGreater(great, 20)
        self.assertLess(great, 900)

    def some_small_grammars(self, seed, count):
        numbers = Numbers(seed)
        for _ in range(count):
            size = 1 + numbers.below(4)
            yield (size, letters_only(numbers, some_rules(numbers, size, 8, 3, 4 + numbers.below(5))))

    def test_least(self):
        most = 9
        for size, rules in self.some_small_grammars(5, 800):
            known = Reference(size, *rules)
            lengths = known.lengths(known.bounds()[0])
            texts = known.texts(most)
            told = ask_of(row_of(size, *rules), *[least(a) for a in range(size)])
            for a in range(size):
                if not lengths[a]:
                    self.assertEqual(told[a], [1], (a, size, rules))
                    continue
                shortest = (lengths[a] & -lengths[a]).bit_length() - 1
                self.assertEqual(told[a][:3], [0, shortest, shortest if shortest <= 64 else 0], (a, size, rules))
                if shortest <= most:
                    self.assertEqual(told[a][3:], list(texts[a][shortest]), (a, size, rules))

    def test_extent(self):
        seen = {0: 0, 1: 0, 2: 0}
        for size, rules in self.some_small_grammars(6, 1000):
            wanted = Reference(size, *rules).extent()
            self.assertEqual(ask_of(row_of(size, *rules), extent()), [[0] + wanted], (size, rules))
            seen[wanted[0]] += 1
        self.assertGreater(min(seen.values()), 100)

    def test_same_texts_afterwards(self):
        """Trimmed it reads the same texts; full each nonterminal covers the same, but for the empty piece."""
        most = 9
        for size, rules in self.some_small_grammars(7, 300):
            known = Reference(size, *rules)
            lengths = known.lengths(most)
            self.assertEqual(self.after(size, rules, 0).lengths(most)[0], lengths[0], (size, rules))
            filled = self.after(size, rules, 1)
            if filled:
                self.assertEqual(filled.lengths(most), [bits & ~1 for bits in lengths], (size, rules))

    def after(self, size, rules, k):
        """What is held after a take, read back from its row; None if that was refused."""
        told = ask_of(row_of(size, *rules), take(k), grammar())
        if told[0] != [0]:
            return None
        numbers = iter(told[1][1:])
        size, length = next(numbers), next(numbers)
        held = []
        for _ in range(length):
            owner, width = next(numbers), next(numbers)
            symbols = []
            for _ in range(width):
                symbols.append((next(numbers), next(numbers)) if next(numbers) else next(numbers))
            held.append((owner, *symbols))
        self.assertEqual(list(numbers), [])
        return Reference(size, *held)


if __name__ == "__main__":
    unittest.main()
