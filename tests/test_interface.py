"""Everything that the interface of the document lists: it stands in its file, under its name, with its parameters."""

import importlib
import inspect
import unittest

from by_hand import EVERY, SHIFTS
from wherebegun.books import Book
from wherebegun.errors import Broken, InvalidNumber, InvalidPairs, TooMany
from wherebegun.kinds import Kind
from wherebegun.loops import Loop
from wherebegun.rings import Ring

FUNCTIONS = {
    "begun": {
        "count_range": "loop kind lap", "spread": "loop kind lap", "disagrees": "loop kind lap",
        "matters": "loop kind lap", "spreads": "loop kind", "settles": "loop kind",
        "same_place": "one other kind lap *later=None", "any_place": "one other kind lap *later=None",
        "alike": "one other kind", "alike_anywhere": "one other kind", "unlike": "one other kind"},
    "shown": {"widest": "loop kind lap", "shortest": "loop kind lap", "pumped": "loop kind lap"},
    "totals": {"total_spread": "loop kind rounds", "pace_spread": "loop kind"},
    "about": {"about": "loop kind lap"},
    "mends": {"mends": "loop kind changes rounds"},
    "checker": {"accepts": "claim certificate"},
    "certificates": {
        "certify_spread": "loop kind lap", "certify_settled": "loop kind number", "certify_range": "loop kind lap"}}
METHODS = {
    "rings": ("Ring", {"__init__": "text", "turned": "i"}, "text period",
              "__str__ __len__ __eq__ __iter__ __getitem__ __contains__ __invert__ __mul__ __add__"),
    "kinds": ("Kind", {"__init__": "signs pairs=None", "made": "row", "rings": "length"}, "signs pairs row",
              "__eq__ __contains__ __bool__ __and__"),
    "loops": ("Loop", {
        "__init__": "signs states rows turns=() *yes=()", "made": "row", "__call__": "text rounds",
        "answer": "text lap", "state": "text rounds", "total": "text rounds", "pace": "text", "changed": "change"},
        "signs states rows turns yes row", "__eq__ __add__ __sub__ __mul__ __neg__ __invert__"),
    "books": ("Book", {
        "__init__": "", "remove": "name", "wish": "wish", "lift": "index", "undo": "", "trial": "", "tried": "action"},
        "names wishes changes", "__setitem__ __getitem__ __contains__ __iter__ __len__ __bool__")}


def shape(function):
    """The parameters of a function, those behind the star with one, but for that of its own object."""
    found = []
    for name, parameter in inspect.signature(function).parameters.items():
        star = "*" if parameter.kind is parameter.KEYWORD_ONLY else ""
        default = "" if parameter.default is parameter.empty else f"={parameter.default!r}"
        if name not in ("self", "cls"):
            found.append(star + name + default)
    return " ".join(found)


def module(name):
    return importlib.import_module("wherebegun." + name)


class InterfaceTest(unittest.TestCase):
    def test_functions(self):
        for name, functions in FUNCTIONS.items():
            for function, parameters in functions.items():
                found = vars(module(name))[function]
                self.assertEqual((found.__module__, found.__name__), ("wherebegun." + name, function))
                self.assertEqual(shape(found), parameters, function)

    def test_classes(self):
        for name, (made, methods, properties, operators) in METHODS.items():
            found = vars(module(name))[made]
            self.assertEqual((found.__module__, found.__name__), ("wherebegun." + name, made))
            for method, parameters in methods.items():
                self.assertIn(method, vars(found))
                self.assertEqual(shape(getattr(found, method)), parameters, method)
            for operator in operators.split():
                self.assertIn(operator, vars(found))
            for attribute in properties.split():
                self.assertIn(attribute, vars(found))

    def test_attributes_are_there_when_an_object_is_created(self):
        for made, properties in (
                (Ring("ab"), "text period"), (EVERY, "signs pairs row"), (Book(), "names wishes changes"),
                (SHIFTS, "signs states rows turns yes row"), (Broken(1), "index"), (InvalidNumber(2), "given"),
                (InvalidPairs(index=None), "index"), (TooMany(limit=600), "limit")):
            for attribute in properties.split():
                getattr(made, attribute)

    def test_objects_are_equal_only_as_the_text_says(self):
        made = [Ring("ab"), Kind("ab"), Loop.made(SHIFTS.row), Book()]
        for one in made:
            for other in made + [one.row if isinstance(one, (Kind, Loop)) else str(one), None, 0, "ab", ("ab",)]:
                if one is not other:
                    self.assertEqual((one == other, one != other), (False, True))
        for one, other in ((Ring("ab"), Ring("ba")), (Kind("ab"), EVERY), (Loop.made(SHIFTS.row), SHIFTS)):
            self.assertEqual((one == other, one != other), (True, False))

    def test_truth(self):
        self.assertEqual([bool(made) for made in (Ring("a"), SHIFTS, EVERY, Kind("a", ()), Book(), Broken(0))],
                         [True, True, True, False, True, True])


if __name__ == "__main__":
    unittest.main()
