"""The errors that all functions about loops and a kind raise, in their order: a part of the tests of each module."""

from by_hand import EVERY, SHIFTS, loop_of
from samples import JUST_601, WRONG, called
from wherebegun.errors import InvalidChanges, NoRing, OtherSigns, TooMany
from wherebegun.kinds import Kind
from wherebegun.loops import Loop

LOOPS = ("loop", "one", "other")


class AskedTests:
    """`ASKED` has triples (function, names of its arguments, right values), `WRONG` more names than the shared one."""

    ASKED = ()
    WRONG = {}

    def wrong(self, name):
        return {**WRONG, **self.WRONG}[name]

    def refuses_asked(self, error, value, action):
        if error is InvalidChanges:
            self.refuses(error, None, action, "index")
        else:
            self.refuses(error, value, action)

    def test_by_position_and_by_name(self):
        for function, names, values in self.ASKED:
            self.assertEqual(called(function, names, values), function(**dict(zip(names, values))))

    def test_each_argument_in_its_order(self):
        for function, names, values in self.ASKED:
            for at, name in enumerate(names):
                error, wrong = self.wrong(name)
                # What stands behind is wrong, too; ahead of it all is right, but for what is checked last.
                behind = [self.wrong(other)[1][1] for other in names[at + 1:]]
                for value in wrong:
                    with self.subTest(function=function.__name__, name=name, value=value):
                        for told in ((*values[:at], value, *behind), (*values[:at], value, *values[at + 1:])):
                            self.refuses_asked(error, value, lambda: called(function, names, told))
                            self.refuses_asked(error, value, lambda: function(**dict(zip(names, told))))

    def test_wrong_arguments_come_ahead_of_what_is_checked_last(self):
        for kind in (Kind("abc"), Kind("ab", ("ab",)), EVERY):
            for function, names, values in self.ASKED:
                told = {**dict(zip(names, values)), "kind": kind}
                told.update({name: JUST_601 for name in LOOPS if name in told})
                for name in names:
                    # The states of the other loop are not those of which the changes tell.
                    if name != "kind" and "changes" not in names:
                        error, wrong = self.wrong(name)
                        self.refuses_asked(error, wrong[1], lambda: function(**{**told, name: wrong[1]}))

    def test_other_signs_then_no_ring_then_too_many(self):
        for function, names, values in self.ASKED:
            told = dict(zip(names, values))
            if "changes" in told:
                told["changes"] = ()
            for loop in (SHIFTS, JUST_601):
                for name in [name for name in LOOPS if name in told]:
                    for kind in (Kind("abc"), Kind("c"), Kind("abc", ("ab",)), Kind("bd", ()), Kind("dz", ("dd",))):
                        self.refuses(OtherSigns, kind, lambda: function(**{**told, name: loop, "kind": kind}))
            for kind in (Kind("ab", ("ab",)), Kind("b", ())):
                for loop in (SHIFTS, JUST_601):
                    loops = {name: loop for name in LOOPS if name in told}
                    with self.assertRaises(NoRing) as held:
                        function(**{**told, **loops, "kind": kind})
                    self.assertIs(type(held.exception), NoRing)
            loops = {name: JUST_601 for name in LOOPS if name in told}
            self.refuses(TooMany, 600, lambda: function(**{**told, **loops, "kind": EVERY}), "limit")

    def test_a_loop_lacks_a_sign(self):
        only = loop_of({"a": "p"})
        for function, names, values in self.ASKED:
            told = dict(zip(names, values))
            if "changes" in told:
                told["changes"] = ()
            for name in [name for name in LOOPS if name in told]:
                self.refuses(OtherSigns, EVERY, lambda: function(**{**told, name: only, "kind": EVERY}))

    def test_no_call_changes_what_it_is_passed(self):
        for function, names, values in self.ASKED:
            rows = [value.row for value in values if isinstance(value, (Loop, Kind))]
            first = called(function, names, values)
            self.assertEqual(called(function, names, values), first)
            self.assertEqual([value.row for value in values if isinstance(value, (Loop, Kind))], rows)

    def test_equal_arguments_give_equal_results(self):
        for function, names, values in self.ASKED:
            made = [Loop.made(value.row) if isinstance(value, Loop) else
                    Kind.made(value.row) if isinstance(value, Kind) else value for value in values]
            self.assertEqual(called(function, names, values), called(function, names, made))

    def test_what_is_listed_stands_in_the_file_itself(self):
        for function, _, _ in self.ASKED:
            module = __import__(function.__module__, fromlist=[function.__name__])
            self.assertIs(vars(module)[function.__name__], function)
            self.assertIs(function.__globals__, vars(module))
