"""Numbers read one behind another."""


class Reader:
    def __init__(self, numbers):
        self.numbers = numbers
        self.place = 0

    def at_end(self):
        return self.place == len(self.numbers)

    def next_number(self):
        number = self.numbers[self.place]
        self.place += 1
        return number

    def next_row(self):
        length = self.next_number()
        begin = self.place
        self.place += length
        return self.numbers[begin:self.place]
