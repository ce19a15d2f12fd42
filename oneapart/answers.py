"""What is told of a number, and whether it is right."""

from oneapart.wholes import has_chain, least_answer, least_one_less


class Answer:
    """What is told of a number, by one of the classes below."""

    def shows(self, number):
        """Always False: with no fields, nothing is told."""
        return False


class Square(Answer):
    """The number is the square of the root, which is above 0."""

    def __init__(self, root):
        self.root = root

    def shows(self, number):
        """Whether the number is the square of this root."""
        return self.root > 0 and self.root * self.root == number


class Least(Answer):
    """The least answer of the number but (1, 0)."""

    def __init__(self, one, other):
        self.one = one
        self.other = other

    def shows(self, number):
        """Whether this is the least answer of the number."""
        return has_chain(number) and (self.one, self.other) == least_answer(number)


class Other(Answer):
    """The least pair of the number that is one less."""

    def __init__(self, one, other):
        self.one = one
        self.other = other

    def shows(self, number):
        """Whether this is the least pair of the number that is one less."""
        return has_chain(number) and (self.one, self.other) == least_one_less(number)


class Barred(Answer):
    """The least answer of a number that has no pair that is one less."""

    def __init__(self, one, other):
        self.one = one
        self.other = other

    def shows(self, number):
        """Whether this is the least answer of the number, and bars every pair that is one less."""
        if not has_chain(number) or least_one_less(number) is not None:
            return False
        return (self.one, self.other) == least_answer(number)
