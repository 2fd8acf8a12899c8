"""What several test files use: shares to ask about, wrong values, and a test case that looks at errors whole."""

import itertools
import random
import unittest
from fractions import Fraction

from wishesrise import errors
from wishesrise.shares import Shares

MOST = 10 ** 12
MARKS = ("a", "bc", "def", "ghijklmn")

# Each error of the document: its base, and the name of its attribute, None if it has none.
ERRORS = {
    "InvalidMarks": ("ShapeError", "index"),
    "InvalidNumbers": ("ShapeError", "index"),
    "InvalidText": ("ShapeError", "value"),
    "InvalidRow": ("ShapeError", "value"),
    "InvalidRows": ("ShapeError", "index"),
    "InvalidLot": ("ShapeError", "index"),
    "NotRising": ("ShapeError", "row"),
    "InvalidTies": ("ShapeError", "index"),
    "InvalidNumber": ("ShapeError", "value"),
    "InvalidDeeds": ("ShapeError", "index"),
    "InvalidPromise": ("ShapeError", "value"),
    "InvalidIndex": ("ShapeError", "value"),
    "InvalidLine": ("ShapeError", "value"),
    "NotShares": ("ShapeError", "value"),
    "UnknownMark": ("QuestionError", "value"),
    "NoShares": ("QuestionError", None),
    "OtherMarks": ("QuestionError", None),
    "Broken": ("QuestionError", "index"),
    "Busy": ("QuestionError", None),
    "NothingToUndo": ("QuestionError", None),
    "TooMany": ("SizeError", "limit"),
}
BASES = {"ShapeError": ValueError, "QuestionError": LookupError, "SizeError": ArithmeticError}


class Sullen:
    """An object that cannot be compared, shown or measured."""

    __hash__ = None

    def __eq__(self, other):
        raise RuntimeError("never compared")

    __ne__ = __lt__ = __le__ = __gt__ = __ge__ = __eq__

    def __repr__(self):
        raise RuntimeError("never shown")

    __str__ = __repr__

    def __len__(self):
        raise RuntimeError("never measured")

    __bool__ = __len__


class Fond:
    """An object that is equal to everything."""

    __hash__ = None

    def __eq__(self, other):
        return True

    def __ne__(self, other):
        return True


def nested(depth):
    """Return a tuple nested so deep."""
    value = ()
    for _ in range(depth - 1):
        value = (value,)
    return value


def strange():
    """Return values that are no string, no integer and no tuple that anything asks for."""
    return [None, True, False, b"", b"01", 1j, Fraction(1), [], ["0"], {}, {"0": 1}, {"0"}, frozenset(), range(2),
            object(), object, len, Sullen(), Fond(), [[[]]], nested(20)]


def no_shares():
    """Return what is no Shares."""
    class Double:
        marks, numbers, total = ("a",), (1, 2), 3

    one = Shares(("a",), (1, 2))
    return strange() + [Double(), Shares, "marks a\n0: 1", "", 0, 1, MOST, (("a",), (1, 2)), (1, 2), (), [one], (one,)]


def hard_marks():
    """Return what is no marks, each with the index that InvalidMarks tells."""
    return [(["a"], None), ("a", None), (None, None), (True, None), ({"a": 1}, None), (Sullen(), None), ((), None),
            (("",), 0), (("A",), 0), (("a1",), 0), (("a b",), 0), (("a\n",), 0), (("\u00e4",), 0), (("abcdefghi",), 0),
            ((1,), 0), ((None,), 0), ((b"a",), 0), ((("a",),), 0), ((Sullen(),), 0), ((Fond(),), 0), ((nested(19),), 0),
            (("a", "a"), 1), (("a", "b", "a"), 2), (("a", "b", "c", "b"), 3), (("a", "B", "a"), 1), (("a", Fond()), 1),
            (("a", Sullen()), 1), (("a", "b", "c", "d", "e"), 4), (("a", "b", "c", "d", "a"), 4),
            (("a", "b", "c", "d", "e", "f"), 4), (("a", "b", "c", "d", 5), 4), (("a", "b", "b", "d", "e"), 2),
            (("a", "b", "c", "D", "e"), 3), ((0, "a", "a", "b", "c"), 0), (tuple("abcdefghijkl"), 4)]


def all_rows(size):
    """Return all rows of so many signs, in their order."""
    return ["".join(signs) for signs in itertools.product("01", repeat=size)]


def upper_or(one, two):
    """Return the or of two rows."""
    return format(int(one, 2) | int(two, 2), f"0{len(one)}b")


def lower_and(one, two):
    """Return the and of two rows."""
    return format(int(one, 2) & int(two, 2), f"0{len(one)}b")


def is_over(upper, lower):
    """Tell whether a row lies above another one."""
    return int(upper, 2) | int(lower, 2) == int(upper, 2)


def rising_lots(size):
    """Return all rising lots, in their order: all sets of rows that are closed upwards, one row after the other."""
    lots = [()]
    # A row comes in only behind all rows above it, as those are greater numbers.
    for row in reversed(all_rows(size)):
        uppers = [upper for upper in all_rows(size) if upper != row and is_over(upper, row)]
        lots += [(row,) + lot for lot in lots if set(uppers) <= set(lot)]
    return sorted(lots)


def told_help(shares, one, two):
    """Return the help of two lots."""
    numbers = dict(zip(all_rows(len(shares.marks)), shares.numbers))
    both = sum(numbers[row] for row in one if row in two)
    return sum(shares.numbers) * both - sum(numbers[row] for row in one) * sum(numbers[row] for row in two)


def some(seed, many, size=None):
    """Return some shares over one to four marks, or over so many: small and great numbers, also with zeros."""
    chance = random.Random(seed)
    found = []
    while len(found) < many:
        marks = MARKS[:size or chance.randint(1, 4)]
        most = chance.choice([1, 2, 30, MOST])
        numbers = tuple(chance.choice([0, chance.randint(0, most)]) for _ in range(2 ** len(marks)))
        if any(numbers):
            found.append(Shares(marks, numbers))
    return found


def full(seed, many, size, most):
    """Return some shares over so many marks, all numbers from 1 to a most one."""
    chance = random.Random(seed)
    return [Shares(MARKS[:size], tuple(chance.randint(1, most) for _ in range(2 ** size))) for _ in range(many)]


def fitting(seed, many, size):
    """Return some shares over so many marks that fit: products of factors for two marks alike, some without some rows."""
    chance = random.Random(seed)
    found = []
    for _ in range(many):
        numbers = [chance.randint(1, 20)] * 2 ** size
        for one, two in itertools.combinations(range(size), 2):
            factor = chance.choice([1, 1, 2, 3])
            numbers = [number * (factor if row[one] == row[two] else 1) for row, number in zip(all_rows(size), numbers)]
            if chance.random() < 0.2:
                # Without the rows that have the first mark and not the other one, ors and ands stay among the rows.
                numbers = [0 if row[one] > row[two] else number for row, number in zip(all_rows(size), numbers)]
        for place in range(size):
            low, high = chance.randint(1, 5), chance.randint(1, 5)
            numbers = [number * (high if row[place] == "1" else low) for row, number in zip(all_rows(size), numbers)]
        found.append(Shares(MARKS[:size], tuple(numbers)))
    return found


def touched(seed, found):
    """Return these shares, each with one number that is a little less or more, or 0."""
    chance = random.Random(seed)
    changed = []
    for shares in found:
        numbers = list(shares.numbers)
        place = chance.randrange(len(numbers))
        number = numbers[place]
        changed_number = chance.choice([0, number - 1, number + 1, number // 2, number * 2])
        numbers[place] = min(max(0, changed_number), MOST)
        if any(numbers):
            changed.append(Shares(shares.marks, tuple(numbers)))
    return changed


def mixed(seed, size, many):
    """Return shares of all these kinds over so many marks."""
    chosen = fitting(seed, many, size)
    return (some(seed, many, size) + full(seed, many, size, 3) + full(seed, many, size, MOST)
            + chosen + touched(seed, chosen) + touched(seed + 1, touched(seed + 2, chosen)))


class Case(unittest.TestCase):
    """A test case that looks at errors whole."""

    def fails(self, name, told, act, /, *args, **named):
        """Check that act(*args, **named) raises the error of this very class, with this attribute."""
        try:
            act(*args, **named)
        except Exception as error:
            self.assertIs(error.__class__, getattr(errors, name), repr(error))
            _, attribute = ERRORS[name]
            if attribute is not None:
                self.same(getattr(error, attribute), told)
            return
        self.fail(f"{name} was not raised")

    def same(self, found, told):
        """Check that an error tells this value: the very object, or an equal index."""
        if isinstance(told, (int, str)):
            self.assertIs(found.__class__, told.__class__)
            self.assertEqual(found, told)
        else:
            self.assertIs(found, told)
