"""The errors: points 3 and 4, and the interface's list."""

import unittest

from tests.helpers import BASES, ERRORS, Sullen, strange
from wishesrise import errors


class Errors(unittest.TestCase):
    def test_the_bases(self):
        for name, python in BASES.items():
            base = getattr(errors, name)
            self.assertEqual(base.__bases__, (python,), name)
            self.assertEqual(base.__module__, "wishesrise.errors")

    def test_the_list_is_whole(self):
        found = {name for name, value in vars(errors).items() if isinstance(value, type)}
        self.assertEqual(found, set(BASES) | set(ERRORS))
        self.assertEqual(len(ERRORS), 21)

    def test_each_is_derived_from_its_one_base(self):
        listed = list(BASES) + list(ERRORS)
        for name, (base, _) in ERRORS.items():
            self.assertEqual(getattr(errors, name).__bases__, (getattr(errors, base),), name)
            self.assertEqual(getattr(errors, name).__module__, "wishesrise.errors")
            for other in listed:
                told = issubclass(getattr(errors, name), getattr(errors, other))
                self.assertEqual(told, other in (name, base), (name, other))

    def test_each_is_of_its_bases_class_of_python(self):
        for name, (base, _) in ERRORS.items():
            for python in BASES.values():
                self.assertEqual(issubclass(getattr(errors, name), python), python is BASES[base], (name, python))

    def test_attributes_by_place_and_by_name(self):
        values = strange() + [0, -1, 10 ** 59, "", "x", (), ("a", "b"), 10 ** 12, ValueError]
        for name, (_, attribute) in ERRORS.items():
            if attribute is None:
                continue
            for value in values:
                self.assertIs(getattr(getattr(errors, name)(value), attribute), value, name)
                self.assertIs(getattr(getattr(errors, name)(**{attribute: value}), attribute), value, name)

    def test_those_without_attributes(self):
        for name, (_, attribute) in ERRORS.items():
            if attribute is None:
                made = getattr(errors, name)()
                self.assertIs(made.__class__, getattr(errors, name))
                self.assertEqual(vars(made), {})

    def test_other_arguments_are_refused(self):
        for name, (_, attribute) in ERRORS.items():
            made = getattr(errors, name)
            with self.assertRaises(TypeError, msg=name):
                made(*([1] if attribute is None else [1, 2]))
            with self.assertRaises(TypeError, msg=name):
                made(**{"other": 1})
            if attribute is not None:
                with self.assertRaises(TypeError, msg=name):
                    made()

    def test_each_can_be_raised_and_shown(self):
        for name, (base, attribute) in ERRORS.items():
            made = getattr(errors, name)
            with self.assertRaises(getattr(errors, base)) as caught:
                raise made(*([] if attribute is None else [Sullen()]))
            self.assertTrue(str(caught.exception), name)


if __name__ == "__main__":
    unittest.main()
