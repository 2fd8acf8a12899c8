"""What several test files use: wrong values, and a test case that looks at errors whole."""

import unittest
from fractions import Fraction

from wishesrise import errors

# Each error of the document: its base, and the name of its attribute, None if it has none.
ERRORS = {
    "InvalidMarks": ("ShapeError", "index"),
    "InvalidNumbers": ("ShapeError", "index"),
    "InvalidText": ("ShapeError", "value"),
    "InvalidRow": ("ShapeError", "value"),
    "InvalidRows": ("ShapeError", "index"),
    "InvalidLot": ("ShapeError", "index"),
    "NotRising": ("ShapeError", "row"),
    "InvalidTies": ("ShapeError", "index"),
    "InvalidNumber": ("ShapeError", "value"),
    "InvalidDeeds": ("ShapeError", "index"),
    "InvalidPromise": ("ShapeError", "value"),
    "InvalidIndex": ("ShapeError", "value"),
    "InvalidLine": ("ShapeError", "value"),
    "NotShares": ("ShapeError", "value"),
    "UnknownMark": ("QuestionError", "value"),
    "NoShares": ("QuestionError", None),
    "OtherMarks": ("QuestionError", None),
    "Broken": ("QuestionError", "index"),
    "Busy": ("QuestionError", None),
    "NothingToUndo": ("QuestionError", None),
    "TooMany": ("SizeError", "limit"),
}
BASES = {"ShapeError": ValueError, "QuestionError": LookupError, "SizeError": ArithmeticError}


class Sullen:
    """An object that cannot be compared, shown or measured."""

    __hash__ = None

    def __eq__(self, other):
        raise RuntimeError("never compared")

    __ne__ = __lt__ = __le__ = __gt__ = __ge__ = __eq__

    def __repr__(self):
        raise RuntimeError("never shown")

    __str__ = __repr__

    def __len__(self):
        raise RuntimeError("never measured")

    __bool__ = __len__


class Fond:
    """An object that is equal to everything."""

    __hash__ = None

    def __eq__(self, other):
        return True

    def __ne__(self, other):
        return True


def nested(depth):
    """Return a tuple nested so deep."""
    value = ()
    for _ in range(depth - 1):
        value = (value,)
    return value


def strange():
    """Return values that are no string, no integer and no tuple that anything asks for."""
    return [None, True, False, b"", b"01", 1j, Fraction(1), [], ["0"], {}, {"0": 1}, {"0"}, frozenset(), range(2),
            object(), object, len, Sullen(), Fond(), [[[]]], nested(20)]


def hard_marks():
    """Return what is no marks, each with the index that InvalidMarks tells."""
    return [(["a"], None), ("a", None), (None, None), (True, None), ({"a": 1}, None), (Sullen(), None), ((), None),
            (("",), 0), (("A",), 0), (("a1",), 0), (("a b",), 0), (("a\n",), 0), (("\u00e4",), 0), (("abcdefghi",), 0),
            ((1,), 0), ((None,), 0), ((b"a",), 0), ((("a",),), 0), ((Sullen(),), 0), ((Fond(),), 0), ((nested(19),), 0),
            (("a", "a"), 1), (("a", "b", "a"), 2), (("a", "b", "c", "b"), 3), (("a", "B", "a"), 1), (("a", Fond()), 1),
            (("a", Sullen()), 1), (("a", "b", "c", "d", "e"), 4), (("a", "b", "c", "d", "a"), 4),
            (("a", "b", "c", "d", "e", "f"), 4), (("a", "b", "c", "d", 5), 4), (("a", "b", "b", "d", "e"), 2),
            (("a", "b", "c", "D", "e"), 3), ((0, "a", "a", "b", "c"), 0), (tuple("abcdefghijkl"), 4)]


class Case(unittest.TestCase):
    """A test case that looks at errors whole."""

    def fails(self, name, told, act, *args, **named):
        """Check that act(*args, **named) raises the error of this very class, with this attribute."""
        try:
            act(*args, **named)
        except Exception as error:
            self.assertIs(error.__class__, getattr(errors, name), repr(error))
            _, attribute = ERRORS[name]
            if attribute is not None:
                self.same(getattr(error, attribute), told)
            return
        self.fail(f"{name} was not raised")

    def same(self, found, told):
        """Check that an error tells this value: the very object, or an equal index."""
        if isinstance(told, (int, str)):
            self.assertIs(found.__class__, told.__class__)
            self.assertEqual(found, told)
        else:
            self.assertIs(found, told)
