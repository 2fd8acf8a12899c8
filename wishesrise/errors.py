"""The errors: each keeps the values that it is told under the names of its parameters."""


class ShapeError(ValueError):
    """A value is not of the shape that is asked for."""


class QuestionError(LookupError):
    """A question has no answer."""


class SizeError(ArithmeticError):
    """A limit is passed."""


class InvalidMarks(ShapeError):
    """What was passed is no marks."""

    def __init__(self, index):
        super().__init__("no marks: one to four different names are asked for")
        self.index = index


class InvalidNumbers(ShapeError):
    """What was passed, or would come about, is no numbers of shares."""

    def __init__(self, index):
        super().__init__("no numbers of shares")
        self.index = index


class InvalidText(ShapeError):
    """What was passed is no text of shares."""

    def __init__(self, value):
        super().__init__("no text of shares")
        self.value = value


class InvalidRow(ShapeError):
    """What was passed is no row of the marks, or no sign."""

    def __init__(self, value):
        super().__init__("no row of the marks")
        self.value = value


class InvalidRows(ShapeError):
    """What was passed is no tuple of rows of the marks."""

    def __init__(self, index):
        super().__init__("no tuple of rows of the marks")
        self.index = index


class InvalidLot(ShapeError):
    """What was passed is no lot of rows of the marks."""

    def __init__(self, index):
        super().__init__("no lot of rows of the marks")
        self.index = index


class NotRising(ShapeError):
    """A lot has a row, but not all rows above it."""

    def __init__(self, row):
        super().__init__("the lot is not rising")
        self.row = row


class InvalidTies(ShapeError):
    """What was passed is no tuple of ties."""

    def __init__(self, index):
        super().__init__("no tuple of ties")
        self.index = index


class InvalidNumber(ShapeError):
    """What was passed is no number of shares."""

    def __init__(self, value):
        super().__init__("no number of shares")
        self.value = value


class InvalidDeeds(ShapeError):
    """What was passed is no deed, or no tuple of deeds."""

    def __init__(self, index):
        super().__init__("no deeds")
        self.index = index


class InvalidPromise(ShapeError):
    """What was passed is no promise."""

    def __init__(self, value):
        super().__init__("no promise")
        self.value = value


class InvalidIndex(ShapeError):
    """What was passed is no index of a promise."""

    def __init__(self, value):
        super().__init__("no index of a promise")
        self.value = value


class InvalidLine(ShapeError):
    """What was passed is no line that a console answers."""

    def __init__(self, value):
        super().__init__("no line that a console answers")
        self.value = value


class NotShares(ShapeError):
    """What was passed is no Shares."""

    def __init__(self, value):
        super().__init__("no Shares")
        self.value = value


class UnknownMark(QuestionError):
    """What was passed is no mark of the shares."""

    def __init__(self, value):
        super().__init__("no mark of the shares")
        self.value = value


class NoShares(QuestionError):
    """There are no shares, as there is no mark or all numbers are 0."""

    def __init__(self):
        super().__init__("there are no shares")


class OtherMarks(QuestionError):
    """Shares that are asked about together have not the same marks."""

    def __init__(self):
        super().__init__("the shares have not the same marks")


class Broken(QuestionError):
    """A promise does not hold."""

    def __init__(self, index):
        super().__init__("a promise does not hold")
        self.index = index


class Busy(QuestionError):
    """A tally is asked to change while it is at work."""

    def __init__(self):
        super().__init__("the tally is at work")


class NothingToUndo(QuestionError):
    """There is nothing that can be taken back."""

    def __init__(self):
        super().__init__("there is nothing to take back")


class TooMany(SizeError):
    """A number would be greater than the limit."""

    def __init__(self, limit):
        super().__init__("a number would pass the limit")
        self.limit = limit
