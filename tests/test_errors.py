"""The section "Errors"."""

import importlib
import inspect
import pathlib
import unittest

from insertionorders import errors
from tests.support import Awkward

OF_INSERTION_ERROR = {
    "InvalidOrder": "position", "InvalidTree": None, "InvalidKey": "value", "InvalidKeys": "position",
    "InvalidPosition": "value", "InvalidNumber": "value", "InvalidSize": "value", "InvalidFacts": "position",
    "InvalidObservations": "position", "InvalidSearch": "position", "InvalidUser": "value", "InvalidLine": None,
    "DifferentKeys": "key", "DifferentTrees": "key", "DuplicateKey": "key", "NoParent": "key", "ParseError": "word",
}

OF_PYTHON = {
    "UnknownKey": (KeyError, "key"), "UnknownInsertion": (LookupError, "number"),
    "NothingToUndo": (LookupError, None), "TooLarge": (OverflowError, "amount"),
    "Contradiction": (ArithmeticError, "chain"), "Unsatisfiable": (ArithmeticError, None),
}


def listed():
    """Return tuples of the name, the base and the field of each class but InsertionError."""
    rows = [(name, errors.InsertionError, field) for name, field in OF_INSERTION_ERROR.items()]
    return rows + [(name, base, field) for name, (base, field) in OF_PYTHON.items()]


class Bases(unittest.TestCase):
    def test_insertion_error(self):
        self.assertEqual(errors.InsertionError.__bases__, (ValueError,))

    def test_each_class_has_exactly_its_base(self):
        for name, base, field in listed():
            with self.subTest(name):
                self.assertEqual(getattr(errors, name).__bases__, (base,))

    def test_no_other_class_is_a_base(self):
        for name, base, field in listed():
            with self.subTest(name):
                self.assertEqual(getattr(errors, name).__subclasses__(), [])

    def test_nothing_else_is_defined(self):
        defined = {name for name in vars(errors) if not name.startswith("__")}
        self.assertEqual(defined, {name for name, base, field in listed()} | {"InsertionError"})


class Package(unittest.TestCase):
    def test_no_class_elsewhere_is_or_has_a_base(self):
        names = [path.stem for path in pathlib.Path(errors.__file__).parent.glob("*.py") if path.stem != "__init__"]
        self.assertGreaterEqual(len(names), 15)
        found = []
        for name in names:
            module = importlib.import_module("insertionorders." + name)
            for one in vars(module).values():
                if inspect.isclass(one) and one.__module__ == module.__name__ and module is not errors:
                    found.append(one.__name__)
                    self.assertEqual(one.__bases__, (object,))
                    self.assertEqual(one.__subclasses__(), [])
        self.assertEqual(sorted(found), ["Console", "Keeper"])


class Fields(unittest.TestCase):
    def test_field_is_the_object_itself(self):
        for name, base, field in listed():
            if field is None:
                continue
            for value in (None, 3, True, [1, 2], "x", Awkward()):
                with self.subTest(name):
                    self.assertIs(getattr(getattr(errors, name)(value), field), value)
                    self.assertIs(getattr(getattr(errors, name)(**{field: value}), field), value)
                    self.assertEqual(list(vars(getattr(errors, name)(value))), [field])

    def test_field_is_required(self):
        for name, base, field in listed():
            if field is not None:
                with self.subTest(name), self.assertRaises(TypeError):
                    getattr(errors, name)()

    def test_without_field(self):
        for name, base, field in listed():
            if field is None:
                with self.subTest(name):
                    self.assertEqual(vars(getattr(errors, name)()), {})
