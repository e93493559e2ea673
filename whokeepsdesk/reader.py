"""Reading a list of whole numbers from its front."""


class Reader:
    """A place in a list that is read and never changed."""

    def __init__(self, numbers):
        self.numbers = numbers
        self.at = 0

    def ended(self):
        return self.at >= len(self.numbers)

    def take(self):
        number = self.numbers[self.at]
        self.at += 1
        return number

    def take_many(self, count):
        many = self.numbers[self.at:self.at + count]
        self.at += count
        return many
