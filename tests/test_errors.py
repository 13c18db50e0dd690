import inspect
import unittest

from wherebegun import errors
from wherebegun.rings import Ring

BASES = {
    "WrongValue": (ValueError, {
        "InvalidWord": "given",
        "InvalidSigns": "given",
        "InvalidNumber": "given",
        "InvalidRound": "given",
        "InvalidPlace": "given",
        "InvalidRow": "given",
        "InvalidWish": "given",
        "InvalidIndex": "given",
        "InvalidName": "given",
        "NotARing": "given",
        "NotAKind": "given",
        "NotALoop": "given",
        "OtherSigns": "given",
        "InvalidPairs": "index",
        "InvalidStates": "index",
        "InvalidRows": "index",
        "InvalidTurns": "index",
        "InvalidChanges": "index",
    }),
    "WrongName": (LookupError, {"UnknownName": "given", "InUse": "index"}),
    "NoAnswer": (ArithmeticError, {"TooMany": "limit", "NoRing": None, "NothingToUndo": None, "Broken": "index"}),
}

VALUES = (
    0, -1, 600, 10 ** 399, "", "abc", "no\nword", None, True, False, b"ab", (), (1,), (0, 601), ((True, None), "a"),
    [], [1, [2]], {}, {"a": [1]}, {1, 2}, Ring("ab"), Ring, len, slice(1, 2), NotImplemented,
)


def classes():
    """Each class with its name, its base class here, Python's class above and its attribute."""
    for base, (above, under) in BASES.items():
        for name, attribute in under.items():
            yield getattr(errors, name), name, getattr(errors, base), above, attribute


def classes_with_attribute():
    return [(made, attribute) for made, _, _, _, attribute in classes() if attribute is not None]


class ErrorsTest(unittest.TestCase):
    def test_each_class_is_there_and_no_other(self):
        expected = [name for _, name, _, _, _ in classes()] + list(BASES)
        found = [name for name, value in vars(errors).items() if inspect.isclass(value)]
        self.assertEqual(sorted(found), sorted(expected))

    def test_each_class_is_defined_in_this_module_under_its_name(self):
        for made, name, _, _, _ in classes():
            self.assertEqual((made.__module__, made.__name__), ("wherebegun.errors", name))
        for name in BASES:
            made = getattr(errors, name)
            self.assertEqual((made.__module__, made.__name__), ("wherebegun.errors", name))

    def test_by_position(self):
        for made, attribute in classes_with_attribute():
            for value in VALUES:
                with self.subTest(made=made, value=value):
                    error = made(value)
                    self.assertIs(getattr(error, attribute), value)
                    self.assertEqual(list(vars(error)), [attribute])

    def test_by_name(self):
        for made, attribute in classes_with_attribute():
            for value in VALUES:
                with self.subTest(made=made, value=value):
                    error = made(**{attribute: value})
                    self.assertIs(getattr(error, attribute), value)
                    self.assertEqual(list(vars(error)), [attribute])

    def test_a_value_is_kept_as_it_is(self):
        given = [1, [2]]
        error = errors.InvalidWord(given)
        self.assertEqual(given, [1, [2]])
        given.append(3)
        self.assertIs(error.given, given)

    def test_the_attribute_is_needed_and_nothing_else_is_taken(self):
        for made, attribute in classes_with_attribute():
            with self.subTest(made=made):
                with self.assertRaises(TypeError):
                    made()
                with self.assertRaises(TypeError):
                    made(1, 2)
                with self.assertRaises(TypeError):
                    made(other=1)

    def test_without_a_value(self):
        for made in (errors.NoRing, errors.NothingToUndo, errors.WrongValue, errors.WrongName, errors.NoAnswer):
            with self.subTest(made=made):
                error = made()
                self.assertIs(type(error), made)
                self.assertEqual(vars(error), {})

    def test_base_class_here_and_above(self):
        for made, name, base, above, _ in classes():
            with self.subTest(name=name):
                self.assertEqual(made.__bases__, (base,))
                self.assertEqual(base.__bases__, (above,))

    def test_each_class_belongs_to_no_other_class_of_the_package(self):
        everything = [value for value in vars(errors).values() if inspect.isclass(value)]
        for made, name, base, _, _ in classes():
            with self.subTest(name=name):
                belongs = [other for other in everything if issubclass(made, other)]
                self.assertCountEqual(belongs, [made, base])
                of_package = [other for other in made.__mro__ if other.__module__.startswith("wherebegun")]
                self.assertEqual(of_package, [made, base])

    def test_a_raised_error_is_caught_by_its_classes_and_keeps_its_value(self):
        value = (1, [2])
        for made, _, base, above, attribute in classes():
            for caught in (made, base, above):
                with self.subTest(made=made, caught=caught):
                    with self.assertRaises(caught) as held:
                        raise made() if attribute is None else made(value)
                    if attribute is not None:
                        self.assertIs(getattr(held.exception, attribute), value)


if __name__ == "__main__":
    unittest.main()
