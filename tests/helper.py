"""Short ways to write grammars and calls, and a reading of the words that shares nothing with the program."""

from itertools import product

from grammarsight.seen import answers

HUGE = 10 ** 18
HOLLOW, PRODUCTIVE, REACHABLE, USEFUL, CYCLIC, GROWING, LEFT_RECURSIVE = range(7)


def symbol_numbers(symbol):
    if isinstance(symbol, int):
        return [0, symbol]
    if isinstance(symbol, str):
        return [1, ord(symbol), ord(symbol)]
    return [1, symbol[0], symbol[1]]


def row_of(size, *rules):
    """rules: (owner, symbol, ...), a symbol being a nonterminal, a sign, or a pair of bytes."""
    row = [size, len(rules)]
    for rule in rules:
        row += [rule[0], len(rule) - 1]
        for symbol in rule[1:]:
            row += symbol_numbers(symbol)
    return row


def load(row):
    return [0, len(row)] + list(row)


def grammar():
    return [1]


def set_of(k):
    return [2, k]


def first(a):
    return [3, a]


def follow(a):
    return [4, a]


def left(a):
    return [5, a]


def least(a):
    return [6, a]


def extent():
    return [7]


def trim():
    return [8]


def full():
    return [9]


def take(k):
    return [10, k]


def parted(numbers):
    found = []
    at = 0
    while at < len(numbers):
        end = at + 1 + numbers[at]
        if end > len(numbers):
            raise ValueError("an answer is cut off")
        found.append(numbers[at + 1:end])
        at = end
    return found


def ask(*calls):
    """The answers of the calls on one object, one list each."""
    return parted(answers([number for call in calls for number in call]))


def ask_of(row, *calls):
    """The same for an object that holds the row's grammar."""
    told = ask(load(row), *calls)
    if told[0] != [0]:
        raise ValueError("the row was refused")
    return told[1:]


EMPTY = "empty"


class Reference:
    """All sets by the words themselves.

    Of a piece only this is kept: that it is empty, or its first byte. What a row of symbols covers is
    known exactly in these terms if it is known of each symbol.
    """

    def __init__(self, size, *rules):
        self.size = size
        self.rules = [(rule[0], rule[1:]) for rule in rules]
        self.begins = [set() for _ in range(size)]
        self._settle_begins()
        self.good_rules = [r for r in self.rules if all(self._some(s) for s in r[1])]

    def _symbol_begins(self, symbol):
        if isinstance(symbol, int):
            return self.begins[symbol]
        if isinstance(symbol, str):
            return {ord(symbol)}
        return set(range(symbol[0], symbol[1] + 1))

    def _some(self, symbol):
        return bool(self._symbol_begins(symbol))

    def row_begins(self, symbols):
        found = {EMPTY}
        for symbol in symbols:
            behind = self._symbol_begins(symbol)
            if not behind:
                return set()
            if EMPTY in found:
                found = (found - {EMPTY}) | behind
        return found

    def _settle_begins(self):
        before = None
        while before != [len(b) for b in self.begins]:
            before = [len(b) for b in self.begins]
            for owner, symbols in self.rules:
                self.begins[owner] = self.begins[owner] | self.row_begins(symbols)

    def hollow_row(self, symbols):
        return all(EMPTY in self._symbol_begins(symbol) for symbol in symbols)

    def hollow(self):
        return {a for a in range(self.size) if EMPTY in self.begins[a]}

    def productive(self):
        return {a for a in range(self.size) if self.begins[a]}

    def growing(self):
        return {a for a in range(self.size) if self.begins[a] - {EMPTY}}

    def reachable(self):
        found = {0}
        for _ in range(self.size):
            for owner, symbols in self.good_rules:
                if owner in found:
                    found |= {s for s in symbols if isinstance(s, int)}
        return found

    def useful(self):
        return self.reachable() & self.productive()

    def closure(self, pairs):
        reach = [[(a, b) in pairs for b in range(self.size)] for a in range(self.size)]
        for c in range(self.size):
            for a in range(self.size):
                for b in range(self.size):
                    reach[a][b] = reach[a][b] or (reach[a][c] and reach[c][b])
        return reach

    def left_ways(self):
        return {
            (owner, symbol, place > 0)
            for owner, symbols in self.good_rules
            for place, symbol in enumerate(symbols)
            if isinstance(symbol, int) and self.hollow_row(symbols[:place])
        }

    def left(self, a):
        ways = self.left_ways()
        steps = {(b, c) for b, c, _ in ways}
        reach = self.closure(steps)
        others = any((a, b) in steps and reach[b][a] for b in range(self.size) if b != a)
        kinds = ((a, a, False) in ways) + 2 * ((a, a, True) in ways) + 4 * others
        return [kinds, [b for b in range(self.size) if reach[a][b]]]

    def left_recursive(self):
        return {a for a in range(self.size) if self.left(a)[0]}

    def cyclic(self):
        steps = {
            (owner, symbol)
            for owner, symbols in self.good_rules
            for place, symbol in enumerate(symbols)
            if isinstance(symbol, int) and self.hollow_row(symbols[:place] + symbols[place + 1:])
        }
        reach = self.closure(steps)
        return {a for a in range(self.size) if reach[a][a]}

    def set_of(self, k):
        ways = [self.hollow, self.productive, self.reachable, self.useful]
        ways += [self.cyclic, self.growing, self.left_recursive]
        return sorted(ways[k]())

    def first(self, a):
        return self.begins[a] - {EMPTY}

    def follow(self, a):
        """The end is told as the number 256."""
        useful = self.useful()
        found = [set() for _ in range(self.size)]
        if 0 in useful:
            found[0].add(256)
        before = None
        while before != [len(f) for f in found]:
            before = [len(f) for f in found]
            for owner, symbols in self.good_rules:
                for place, symbol in enumerate(symbols):
                    if owner in useful and isinstance(symbol, int):
                        rest = symbols[place + 1:]
                        found[symbol] |= self.row_begins(rest) - {EMPTY}
                        if self.hollow_row(rest):
                            found[symbol] |= found[owner]
        return found[a]

    def _row_lengths(self, symbols, lengths, most):
        found = 1
        for symbol in symbols:
            one = lengths[symbol] if isinstance(symbol, int) else 2
            longer = 0
            for length in range(most + 1):
                if one >> length & 1:
                    longer |= found << length
            found = longer & ((1 << (most + 1)) - 1)
        return found

    def lengths(self, most):
        """For each nonterminal the lengths up to most of what it covers, as bits."""
        lengths = [0] * self.size
        before = None
        while before != lengths:
            before = list(lengths)
            for owner, symbols in self.rules:
                lengths[owner] |= self._row_lengths(symbols, lengths, most)
        return lengths

    def bounds(self):
        """The longest text of a grammar that reads finitely many is no longer than the first number.

        One that reads infinitely many reads one that is longer than the first and not than the second: of a longer
        one a part can be taken out that is no longer than their difference.
        """
        width = max([2] + [len(symbols) for _, symbols in self.rules])
        return (width ** self.size, width ** self.size + width ** (self.size + 1))

    def extent(self):
        lower, upper = self.bounds()
        lengths = self.lengths(upper)[0]
        if not lengths:
            return [0]
        longest = lengths.bit_length() - 1
        return [2] if longest > lower else [1, longest]

    def _row_texts(self, symbols, texts, most):
        found = {0: ()}
        for symbol in symbols:
            one = texts[symbol] if isinstance(symbol, int) else {1: (min(self._symbol_begins(symbol)),)}
            longer = {}
            for head in found.values():
                for tail in one.values():
                    text = head + tail
                    if len(text) <= most:
                        longer[len(text)] = min(text, longer.get(len(text), text))
            found = longer
        return found

    def texts(self, most):
        """For each nonterminal and each length up to most: of what it covers of that length the least."""
        texts = [{} for _ in range(self.size)]
        before = None
        while before != texts:
            before = [dict(t) for t in texts]
            for owner, symbols in self.rules:
                for length, text in self._row_texts(symbols, texts, most).items():
                    texts[owner][length] = min(text, texts[owner].get(length, text))
        return texts

    def trimmed(self):
        """The new size and rules, the old numbers of the nonterminals, and those of the rules."""
        useful = self.useful()
        stay = sorted(useful | {0})
        kept = [n for n, rule in enumerate(self.rules) if rule in self.good_rules and rule[0] in useful]
        rules = []
        for owner, symbols in [self.rules[n] for n in kept]:
            renamed = [stay.index(s) if isinstance(s, int) else s for s in symbols]
            rules.append((stay.index(owner), *renamed))
        return (len(stay), rules, stay, kept)

    def full(self):
        """The rules, or None if the full grammar is too great."""
        ways = []
        for owner, symbols in self.rules:
            choices = [((s,), ()) if isinstance(s, int) and s in self.hollow() else ((s,),) for s in symbols]
            ways += [(owner, *sum(choice, ())) for choice in product(*choices)]
        rules = list(dict.fromkeys(way for way in ways if len(way) > 1))
        return None if len(ways) > 256 or len(rules) > 60 else rules


def told_bytes(members):
    """The ranges of a set of bytes, found byte by byte."""
    found = []
    for byte in range(256):
        if byte in members:
            if byte - 1 in members:
                found[-1] = byte
            else:
                found += [byte, byte]
    return [len(found) // 2] + found
