import random
import unittest

from by_hand import ANEW, EVERY, FAR, ODD, SHIFTS, SWITCH, Case, Equal, answers, loop_of, texts_of, turnings
from samples import FIRST_OF_604, JUST_600, JUST_601, SECOND_OF_604
from wherebegun import books
from wherebegun.books import Book
from wherebegun.errors import (
    Broken, InUse, InvalidIndex, InvalidName, InvalidWish, NotALoop, NothingToUndo, UnknownName)
from wherebegun.kinds import Kind
from wherebegun.loops import Loop
from wherebegun.rings import Ring

SETTLED = ("settles", "steps", "days", 1)
WITHIN = ("within", "steps", "days", 2, 0, None)
ALIKE = ("alike", "steps", "more", "days")
NO_NAMES = (
    "", "A", "aB", "1a", "a b", " a", "a\n", "a-b", "abcdefghi", "a" * 4000, None, True, False, 0, 1, b"a", ("a",), ["a"],
    {"a"}, {"a": 1}, (), [], Ring("a"), SHIFTS, EVERY, Loop, Equal(), (Equal(),))
NO_SYSTEMS = (None, True, 0, "", "days", (), [], {}, SHIFTS.row, EVERY.row, Ring("ab"), Loop, Kind, Book(), Equal())
NO_WISHES = (
    None, True, 0, "", "settles", (), [], {}, list(SETTLED), ("settles",), ("settles", "steps", "days"),
    ("settles", "steps", "days", 10), ("settles", "steps", "days", -1), ("settles", "steps", "days", True),
    ("settles", "steps", "days", None), ("settles", "steps", "days", "1"), ("settles", "steps", "days", 1, 1),
    ("settles", "Steps", "days", 1), ("settles", "", "days", 1), ("settles", "steps", "aninename", 1),
    ("settles", None, "days", 1), ("settles", ("steps",), "days", 1), ("settles", Equal(), "days", 1),
    ("within", "steps", "days", 2, 0), ("within", "steps", "days", 0, 0, 0), ("within", "steps", "days", 100, 0, 0),
    ("within", "steps", "days", True, 0, 0), ("within", "steps", "days", None, 0, 0),
    ("within", "steps", "days", 1, False, 0), ("within", "steps", "days", 1, 0, "1"), ("within", "steps", "days", 1, (), 0),
    ("within", "steps", "days", 1, 0, 0, 0), ("within", 1, "days", 1, 0, 0), ("within", "steps", ["days"], 1, 0, 0),
    ("within", "steps", "days", 1, Equal(), 0),
    ("alike", "steps", "more"), ("alike", "steps", "more", "days", 1), ("alike", "steps", "more", "days", "days"),
    ("likes", "steps", "more", "days"), ("steps", "steps", "more", "days"), ("alike", "steps", "more", 1),
    ("alike", "steps", "more", "no name"), ("alike", SHIFTS, "more", "days"), ("Settles", "steps", "days", 1),
    ("settled", "steps", "days", 1), ("", "steps", "days", 1), (None, "steps", "days", 1), (Equal(), "steps", "days", 1),
    (("settles",), "steps", "days", 1), SHIFTS, EVERY, Ring("a"), Equal())
NO_INDEXES = (-1, 2, 3, FAR, -FAR, None, True, False, "0", "", b"0", (), (0,), [0], {}, SHIFTS, EVERY, Equal())
# The count is that of the signs b, whatever is read; the first sign does not matter from the second round on.
COUNTS = loop_of({"a": "p", "b": "p"}, {"a": (0,), "b": (1,)})
EMPTY = Kind("ab", ("ab",))


def told(book):
    """All that a book shows."""
    return (book.names, book.wishes, book.changes, [book[name] for name in book.names], list(book), len(book))


class BooksCase(Case):
    def setUp(self):
        self.book = Book()
        self.book["steps"] = SHIFTS
        self.book["days"] = EVERY

    def unchanged(self, error, value, action, attribute="given"):
        """The action raises this error, and nothing has changed then."""
        before = told(self.book)
        systems = [self.book[name] for name in self.book]
        self.refuses(error, value, action, attribute)
        self.assertEqual(told(self.book), before)
        for system, name in zip(systems, self.book):
            self.assertIs(self.book[name], system)

    def put(self, name, system):
        self.book[name] = system

    def holds(self, wish):
        """Whether the wish can be made; it is then taken back."""
        before = told(self.book)
        try:
            self.assertIsNone(self.book.wish(wish))
        except Broken as error:
            self.assertEqual((type(error), error.index), (Broken, len(self.book.wishes)))
            self.assertEqual(told(self.book), before)
            return False
        self.assertEqual(self.book.wishes, before[1] + (wish,))
        self.book.undo()
        self.assertEqual(told(self.book), before)
        return True


class ExamplesTest(BooksCase):
    def test_examples_of_the_document(self):
        book = Book()
        book["steps"] = SHIFTS
        book["days"] = EVERY
        book.wish(("settles", "steps", "days", 1))
        book.wish(("within", "steps", "days", 2, 0, None))
        self.assertEqual([book.names, len(book.wishes), book.changes, "days" in book],
                         [("days", "steps"), 2, 4, True])
        self.refuses(Broken, 0, lambda: book.__setitem__("steps", ANEW), "index")

    def test_what_is_listed_stands_in_the_class_itself(self):
        self.assertEqual(Book.__module__, "wherebegun.books")
        self.assertIs(vars(books)["Book"], Book)
        for name in ("__init__", "__setitem__", "__getitem__", "remove", "wish", "lift", "undo", "__contains__",
                     "__iter__", "__len__", "__bool__", "trial", "tried"):
            self.assertIn(name, vars(Book))
        for name in ("names", "wishes", "changes"):
            self.assertIsInstance(vars(Book)[name], property)
            with self.assertRaises(AttributeError):
                setattr(self.book, name, ())


class PuttingTest(BooksCase):
    def test_at_first_empty(self):
        book = Book()
        self.assertEqual(told(book), ((), (), 0, [], [], 0))
        self.assertIs(bool(book), True)

    def test_putting_and_getting(self):
        self.assertIs(self.book["steps"], SHIFTS)
        self.assertIs(self.book["days"], EVERY)
        self.put("steps", ODD)
        self.assertIs(self.book["steps"], ODD)
        self.put("steps", SWITCH)
        self.assertIs(self.book["steps"], SWITCH)
        self.put("a1", SWITCH)
        self.assertEqual((self.book.names, self.book.changes), (("a1", "days", "steps"), 5))

    def test_putting_the_same_again_counts(self):
        self.put("steps", SHIFTS)
        self.assertEqual(self.book.changes, 3)

    def test_names(self):
        for name in ("a", "z", "a1", "abcdefgh", "x0000099", "zzzzzzzz"):
            self.put(name, SHIFTS)
            self.assertIs(self.book[name], SHIFTS)
        self.assertEqual(self.book.names, ("a", "a1", "abcdefgh", "days", "steps", "x0000099", "z", "zzzzzzzz"))
        self.assertEqual(list(self.book), list(self.book.names))
        self.assertEqual(len(self.book), 8)

    def test_wrong_names(self):
        for name in NO_NAMES:
            self.unchanged(InvalidName, name, lambda: self.put(name, SHIFTS))
            self.unchanged(InvalidName, name, lambda: self.put(name, None))
            self.unchanged(UnknownName, name, lambda: self.book[name])
            self.unchanged(UnknownName, name, lambda: self.book.remove(name))
            self.assertIs(name in self.book, False)

    def test_wrong_systems(self):
        for value in NO_SYSTEMS:
            self.unchanged(NotALoop, value, lambda: self.put("steps", value))
            self.unchanged(NotALoop, value, lambda: self.put("new", value))

    def test_unknown_names(self):
        for name in ("step", "stepss", "a", "day"):
            self.unchanged(UnknownName, name, lambda: self.book[name])
            self.unchanged(UnknownName, name, lambda: self.book.remove(name))
            self.assertIs(name in self.book, False)
        self.assertIs("steps" in self.book, True)

    def test_removing(self):
        self.assertIsNone(self.book.remove("steps"))
        self.assertEqual((self.book.names, self.book.changes), (("days",), 3))
        self.unchanged(UnknownName, "steps", lambda: self.book["steps"])
        self.book.remove(name="days")
        self.assertEqual((len(self.book), bool(self.book), self.book.changes), (0, True, 4))

    def test_removing_what_a_wish_names(self):
        self.put("more", SHIFTS)
        self.put("other", SHIFTS)
        for wish in (SETTLED, ALIKE, WITHIN):
            self.book.wish(wish)
        self.unchanged(InUse, 0, lambda: self.book.remove("steps"), "index")
        self.unchanged(InUse, 0, lambda: self.book.remove("days"), "index")
        self.unchanged(InUse, 1, lambda: self.book.remove("more"), "index")
        self.book.remove("other")
        self.book.lift(1)
        self.book.remove("more")
        self.book.lift(0)
        self.unchanged(InUse, 0, lambda: self.book.remove("days"), "index")
        self.book.lift(0)
        self.book.remove("days")
        self.assertEqual(self.book.names, ("steps",))

    def test_equality(self):
        one, other = Book(), Book()
        self.assertEqual((one == other, one != other, one == one, one != one), (False, True, True, False))
        for value in (None, (), 0, "", SHIFTS, EVERY):
            self.assertEqual((one == value, one != value), (False, True))


class WishesTest(BooksCase):
    def test_making_wishes(self):
        self.assertIsNone(self.book.wish(SETTLED))
        self.assertIsNone(self.book.wish(wish=WITHIN))
        self.book.wish(SETTLED)
        self.assertEqual((self.book.wishes, self.book.changes), ((SETTLED, WITHIN, SETTLED), 5))
        self.assertEqual((type(self.book.wishes), type(self.book.names)), (tuple, tuple))

    def test_what_is_no_wish(self):
        self.put("more", SHIFTS)
        for value in NO_WISHES:
            with self.subTest(value=value):
                self.unchanged(InvalidWish, value, lambda: self.book.wish(value))

    def test_unknown_names_in_their_order(self):
        for wish, name in (
                (("settles", "no", "days", 1), "no"), (("settles", "steps", "no", 1), "no"),
                (("settles", "no", "none", 1), "no"), (("within", "no", "none", 1, 0, 0), "no"),
                (("within", "steps", "none", 1, 5, 0), "none"), (("alike", "no", "none", "any"), "no"),
                (("alike", "steps", "none", "any"), "none"), (("alike", "steps", "days", "any"), "any")):
            self.unchanged(UnknownName, name, lambda: self.book.wish(wish))

    def test_settles(self):
        self.assertEqual([self.holds(("settles", "steps", "days", number)) for number in range(10)], [False] + [True] * 9)
        self.put("steps", ANEW)
        self.assertEqual([self.holds(("settles", "steps", "days", number)) for number in (0, 1, 9)], [False] * 3)
        self.put("steps", loop_of({"a": "qpr", "b": "pqr"}, {"a": (0, 0, 0), "b": (0, 1, 0)}, "prr"))
        source = random.Random(2)
        for _ in range(20):
            kind = source.choice((EVERY, SWITCH))
            self.put("days", kind)
            number = source.choice((0, 1, 2, 9))
            loop = self.book["steps"]
            matter = any(len({answers(loop, turning, 12)[number:] for turning in turnings(text)}) > 1
                         for length in range(1, 8) for text in texts_of(kind, length))
            self.assertIs(self.holds(("settles", "steps", "days", number)), not matter)

    def test_within(self):
        self.put("ones", Kind("a"))
        self.put("counts", COUNTS)
        for least, greatest, holds in (
                (0, 0, True), (None, None, True), (None, 0, True), (0, None, True), (-5, 5, True), (1, None, False),
                (None, -1, False), (1, 0, False), (0, -1, False), (10 ** 30, None, False)):
            for lap in (1, 99):
                self.assertIs(self.holds(("within", "counts", "ones", lap, least, greatest)), holds)
        for least, greatest, holds in (
                (0, None, True), (0, 10 ** 30, False), (None, None, True), (1, None, False), (None, 5, False)):
            self.assertIs(self.holds(("within", "counts", "days", 1, least, greatest)), holds)
            down = None if least is None else -least
            up = None if greatest is None else -greatest
            self.put("less", -COUNTS)
            self.assertIs(self.holds(("within", "less", "days", 1, up, down)), holds)
        self.assertIs(self.holds(("within", "steps", "days", 1, 0, None)), True)
        self.assertIs(self.holds(("within", "steps", "days", 1, 1, None)), False)

    def test_alike(self):
        self.put("more", SHIFTS)
        self.put("anew", ANEW)
        self.assertEqual(
            [self.holds(("alike", one, other, "days")) for one, other in (
                ("steps", "more"), ("more", "steps"), ("steps", "steps"), ("steps", "anew"), ("anew", "anew"))],
            [True, True, True, False, True])
        self.put("odd", ODD)
        self.put("even", ~ODD)
        self.assertIs(self.holds(("alike", "odd", "even", "days")), False)

    def test_another_sort_under_a_name(self):
        self.put("more", SWITCH)
        for wish in (
                ("settles", "days", "steps", 9), ("settles", "steps", "steps", 9), ("settles", "days", "days", 9),
                ("within", "days", "more", 1, None, None), ("within", "steps", "steps", 1, None, None),
                ("alike", "days", "steps", "more"), ("alike", "steps", "days", "more"),
                ("alike", "steps", "steps", "steps"), ("alike", "days", "days", "days")):
            self.assertIs(self.holds(wish), False, wish)

    def test_signs_that_a_loop_has_not(self):
        self.put("abc", Kind("abc"))
        self.put("only", loop_of({"a": "p"}))
        for wish in (
                ("settles", "steps", "abc", 9), ("within", "steps", "abc", 1, None, None),
                ("alike", "steps", "steps", "abc"), ("alike", "only", "steps", "days"),
                ("alike", "steps", "only", "days")):
            self.assertIs(self.holds(wish), False, wish)
        self.put("ones", Kind("a"))
        self.assertIs(self.holds(("alike", "only", "steps", "ones")), True)

    def test_more_than_600_stands(self):
        self.put("many", JUST_601)
        for wish in (("settles", "many", "days", 9), ("within", "many", "days", 1, None, None),
                     ("alike", "many", "many", "days"), ("alike", "many", "steps", "days")):
            self.assertIs(self.holds(wish), False, wish)
        self.put("one", FIRST_OF_604)
        self.put("other", SECOND_OF_604)
        self.assertIs(self.holds(("alike", "one", "other", "days")), False)
        self.assertIs(self.holds(("alike", "one", "one", "days")), True)
        self.put("few", SWITCH)
        self.assertIs(self.holds(("settles", "many", "few", 0)), True)
        self.put("many", JUST_600)
        self.assertIs(self.holds(("within", "many", "days", 1, None, None)), True)

    def test_a_kind_without_rings(self):
        self.put("none", EMPTY)
        self.put("anew", ANEW)
        self.put("many", JUST_601)
        for wish in (
                ("settles", "anew", "none", 0), ("within", "steps", "none", 1, 5, -5), ("alike", "steps", "anew", "none"),
                ("settles", "many", "none", 0), ("alike", "many", "anew", "none")):
            self.assertIs(self.holds(wish), True, wish)
        self.put("bare", Kind("abc", ("ab",)))
        self.assertIs(self.holds(("settles", "steps", "bare", 9)), False)
        self.assertIs(self.holds(("alike", "steps", "none", "none")), False)
        self.assertIs(self.holds(("settles", "none", "none", 9)), False)

    def test_lifting(self):
        self.book.wish(SETTLED)
        self.book.wish(WITHIN)
        for value in NO_INDEXES:
            self.unchanged(InvalidIndex, value, lambda: self.book.lift(value))
        self.assertIsNone(self.book.lift(0))
        self.assertEqual((self.book.wishes, self.book.changes), ((WITHIN,), 5))
        self.unchanged(InvalidIndex, 1, lambda: self.book.lift(1))
        self.book.lift(index=0)
        self.assertEqual(self.book.wishes, ())
        self.unchanged(InvalidIndex, 0, lambda: self.book.lift(0))
        self.put("steps", ANEW)


class BrokenTest(BooksCase):
    def setUp(self):
        BooksCase.setUp(self)
        self.put("more", SHIFTS)
        self.put("odd", ODD)
        self.put("switch", SWITCH)
        self.book.wish(("within", "odd", "switch", 1, None, None))
        self.book.wish(ALIKE)
        self.book.wish(SETTLED)
        self.book.wish(("settles", "more", "days", 9))

    def broken(self, index, action):
        self.unchanged(Broken, index, action, "index")

    def test_the_first_wish_that_would_not_hold(self):
        self.broken(1, lambda: self.put("steps", ANEW))
        self.broken(1, lambda: self.put("more", ANEW))
        self.broken(1, lambda: self.put("days", SHIFTS))
        self.broken(1, lambda: self.put("days", Kind("abc")))
        self.broken(0, lambda: self.put("odd", EVERY))
        self.broken(0, lambda: self.put("switch", Kind("abc", ())))
        self.broken(1, lambda: self.put("steps", JUST_601))
        self.broken(4, lambda: self.book.wish(("settles", "steps", "days", 0)))
        self.book.lift(1)
        self.broken(1, lambda: self.put("steps", ANEW))
        self.broken(2, lambda: self.put("more", ANEW))
        self.broken(1, lambda: self.put("days", SHIFTS))
        self.book.lift(1)
        self.put("steps", ANEW)
        self.broken(1, lambda: self.put("more", ANEW))

    def test_what_keeps_all_wishes(self):
        self.put("days", SWITCH)
        self.put("days", Kind("a"))
        self.put("days", EMPTY)
        self.put("odd", ~ODD)
        self.put("switch", EMPTY)
        self.assertEqual(self.book.changes, 14)
        # With a kind without rings the loops may be any.
        self.broken(1, lambda: self.put("steps", loop_of({"a": "p"})))
        self.put("steps", ANEW)
        self.broken(1, lambda: self.put("days", EVERY))

    def test_errors_ahead_of_broken(self):
        self.broken(1, lambda: self.put("steps", EVERY))
        self.unchanged(NotALoop, None, lambda: self.put("steps", None))
        self.unchanged(InvalidName, "Steps", lambda: self.put("Steps", ANEW))


class UndoTest(BooksCase):
    def test_each_sort_of_change(self):
        pages = [told(self.book)]
        for action in (
                lambda: self.put("more", SHIFTS), lambda: self.book.wish(ALIKE), lambda: self.put("more", SHIFTS),
                lambda: self.book.wish(SETTLED), lambda: self.book.lift(0), lambda: self.book.remove("more"),
                lambda: self.put("steps", loop_of({"a": "p", "b": "p"})), lambda: self.book.lift(0)):
            action()
            pages.append(told(self.book))
            self.assertEqual(self.book.changes, len(pages) + 1)
        while len(pages) > 1:
            pages.pop()
            self.assertIsNone(self.book.undo())
            self.assertEqual(told(self.book), pages[-1])
        self.book.undo()
        self.assertEqual(told(self.book), (("steps",), (), 1, [SHIFTS], ["steps"], 1))
        self.book.undo()
        self.assertEqual(told(self.book), told(Book()))
        for _ in range(2):
            with self.assertRaises(NothingToUndo) as held:
                self.book.undo()
            self.assertIs(type(held.exception), NothingToUndo)
        self.put("steps", ANEW)
        self.assertEqual(self.book.changes, 1)

    def test_a_change_after_it(self):
        self.book.wish(SETTLED)
        self.book.undo()
        self.put("steps", ANEW)
        self.book.undo()
        self.assertEqual(told(self.book), (("days", "steps"), (), 2, [EVERY, SHIFTS], ["days", "steps"], 2))

    def test_nothing_to_undo_after_an_error(self):
        book = Book()
        self.refuses(InvalidName, "", lambda: book.__setitem__("", SHIFTS))
        with self.assertRaises(NothingToUndo):
            book.undo()

    def test_many_changes(self):
        for number in range(3000):
            self.put("steps", (SHIFTS, ANEW)[number % 2])
        self.assertEqual(self.book.changes, 3002)
        for _ in range(3002):
            self.book.undo()
        self.assertEqual(told(self.book), told(Book()))


class TrialTest(BooksCase):
    def test_a_trial_that_ends(self):
        with self.book.trial() as book:
            self.assertIs(book, self.book)
            book["more"] = SHIFTS
            book.wish(ALIKE)
        self.assertEqual((self.book.names, self.book.wishes, self.book.changes),
                         (("days", "more", "steps"), (ALIKE,), 4))
        self.book.undo()
        self.assertEqual(self.book.wishes, ())

    def test_a_trial_that_raises(self):
        self.book.wish(SETTLED)
        before = told(self.book)
        for error in (ZeroDivisionError, Broken(3), KeyboardInterrupt, ValueError("no")):
            with self.assertRaises(error if isinstance(error, type) else type(error)) as held:
                with self.book.trial() as book:
                    book["more"] = SHIFTS
                    book.lift(0)
                    book.remove("days")
                    book.undo()
                    raise error
            if not isinstance(error, type):
                self.assertIs(held.exception, error)
            self.assertEqual(told(self.book), before)

    def test_errors_of_the_book_itself(self):
        self.book.wish(SETTLED)
        before = told(self.book)
        with self.assertRaises(Broken) as held:
            with self.book.trial():
                self.put("more", ODD)
                self.put("steps", ANEW)
        self.assertEqual(held.exception.index, 0)
        self.assertEqual(told(self.book), before)

    def test_changes_ahead_of_it_taken_back_within(self):
        before = told(self.book)
        with self.assertRaises(KeyError):
            with self.book.trial() as book:
                book.undo()
                book.undo()
                self.assertEqual((len(book), book.changes), (0, 0))
                raise KeyError
        self.assertEqual(told(self.book), before)
        with self.book.trial() as book:
            book.undo()
        self.assertEqual((self.book.names, self.book.changes), (("steps",), 1))

    def test_as_it_was_when_the_rows_began(self):
        trial = self.book.trial()
        self.put("more", ODD)
        before = told(self.book)
        with self.assertRaises(KeyError):
            with trial as book:
                book.remove("more")
                raise KeyError
        self.assertEqual(told(self.book), before)

    def test_trials_within_trials(self):
        with self.assertRaises(KeyError):
            with self.book.trial() as book:
                book["more"] = ODD
                with self.assertRaises(IndexError):
                    with book.trial() as inner:
                        inner["most"] = ODD
                        raise IndexError
                self.assertEqual((book.names, book.changes), (("days", "more", "steps"), 3))
                with book.trial() as inner:
                    inner["other"] = ODD
                self.assertEqual(book.changes, 4)
                raise KeyError
        self.assertEqual((self.book.names, self.book.changes), (("days", "steps"), 2))

    def test_each_call_returns_a_new_object(self):
        one, other = self.book.trial(), self.book.trial()
        self.assertIsNot(one, other)
        self.assertIsNot(one, self.book)

    def test_an_error_that_is_caught_within(self):
        with self.book.trial() as book:
            book["more"] = ODD
            with self.assertRaises(UnknownName):
                book["none"]
        self.assertEqual(self.book.names, ("days", "more", "steps"))

    def test_tried(self):
        def change(book):
            self.assertIs(book, self.book)
            book["more"] = ODD
            return ("done", len(book))

        def fail(book):
            book.remove("more")
            raise KeyError("no")
        self.assertEqual(self.book.tried(change), ("done", 3))
        self.assertIsNone(self.book.tried(action=lambda book: None))
        before = told(self.book)
        with self.assertRaises(KeyError) as held:
            self.book.tried(fail)
        self.assertEqual(held.exception.args, ("no",))
        self.assertEqual(told(self.book), before)
        self.assertEqual(self.book.tried(lambda book: book.tried(lambda inner: inner.names)), self.book.names)


class AllChangesTest(BooksCase):
    def test_after_each_change_all_wishes_hold(self):
        source = random.Random(12)
        systems = (SHIFTS, ANEW, ODD, COUNTS, EVERY, SWITCH, Kind("a"), EMPTY, loop_of({"a": "qp", "b": "pq"}))
        names = ("steps", "days", "more", "most")
        kinds_of_errors = set()
        for _ in range(60):
            self.book = Book()
            pages = []
            for _ in range(30):
                page = told(self.book)
                try:
                    self.change(source, systems, names)
                except (Broken, InUse, UnknownName, InvalidIndex) as error:
                    kinds_of_errors.add(type(error))
                    self.assertEqual(told(self.book), page)
                else:
                    pages.append(page)
                self.assertEqual(self.book.changes, len(pages))
                for wish in self.book.wishes:
                    self.assertTrue(self.holds(wish))
            while pages:
                self.book.undo()
                self.assertEqual(told(self.book), pages.pop())
        self.assertEqual(kinds_of_errors, {Broken, InUse, UnknownName, InvalidIndex})

    def change(self, source, systems, names):
        action = source.choice(("put", "put", "put", "remove", "wish", "wish", "lift"))
        one, other, third = (source.choice(names) for _ in range(3))
        if action == "put":
            self.book[one] = source.choice(systems)
        elif action == "remove":
            self.book.remove(one)
        elif action == "lift":
            self.book.lift(source.choice((0, 1)))
        else:
            self.book.wish(source.choice((
                ("settles", one, other, source.choice((0, 1, 9))), ("alike", one, other, third),
                ("within", one, other, source.choice((1, 2)), source.choice((None, 0, 1)), source.choice((None, 0, 2))))))


if __name__ == "__main__":
    unittest.main()
