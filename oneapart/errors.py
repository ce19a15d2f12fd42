"""What the program refuses, one error class for each kind of refusal."""


class ApartError(ValueError):
    """Something handed in is refused."""


class BadNumber(ApartError):
    """It is no whole number from 2 to 1000000."""


class IsSquare(ApartError):
    """It is a square, of which this is not told."""


class BadAnswer(ApartError):
    """It is no answer of the number."""


class BadCount(ApartError):
    """It is no whole number from 0 to 100."""
