"""Books: loops and kinds under names, and wishes that always hold."""

from wherebegun.checks import is_integer_from, is_name
from wherebegun.errors import (
    Broken, InUse, InvalidIndex, InvalidName, InvalidWish, NotALoop, NothingToUndo, UnknownName)
from wherebegun.kinds import Kind
from wherebegun.loops import Loop
from wherebegun.wishes import holds, is_wish, names_of


class Page:
    """What is in a book between two changes. It never changes itself, so that to go back is to take an earlier one."""

    def __init__(self, systems, told, earlier):
        self.systems = systems
        self.told = told
        self.earlier = earlier
        self.ordered = tuple(sorted(systems))
        self.number = 0 if earlier is None else earlier.number + 1


class Trial:
    """For a `with` statement: if its rows end with an exception, the book is then as it was when they began."""

    def __init__(self, book):
        self.book = book
        self.held = None

    def __enter__(self):
        self.held = self.book._page
        return self.book

    def __exit__(self, kind, value, trace):
        if kind is not None:
            self.book._page = self.held


class Book:
    """Loops and kinds under names, and a row of wishes."""

    def __init__(self):
        self._page = Page({}, (), None)

    @property
    def names(self):
        """The names, ascending."""
        return self._page.ordered

    @property
    def wishes(self):
        """The wishes, in their order."""
        return self._page.told

    @property
    def changes(self):
        """How many changes can be taken back."""
        return self._page.number

    def __contains__(self, value):
        return isinstance(value, str) and value in self._page.systems

    def __iter__(self):
        return iter(self._page.ordered)

    def __len__(self):
        return len(self._page.ordered)

    def __bool__(self):
        return True

    def __getitem__(self, name):
        self._check_known(name)
        return self._page.systems[name]

    def __setitem__(self, name, system):
        if not is_name(name):
            raise InvalidName(name)
        if not isinstance(system, Loop) and not isinstance(system, Kind):
            raise NotALoop(system)
        systems = dict(self._page.systems)
        systems[name] = system
        for index, wish in enumerate(self._page.told):
            if name in names_of(wish) and not holds(wish, systems):
                raise Broken(index)
        self._turn_to(systems, self._page.told)

    def remove(self, name):
        """Take away what stands under this name."""
        self._check_known(name)
        for index, wish in enumerate(self._page.told):
            if name in names_of(wish):
                raise InUse(index)
        systems = dict(self._page.systems)
        del systems[name]
        self._turn_to(systems, self._page.told)

    def wish(self, wish):
        """Make a wish more, behind the others."""
        if not is_wish(wish):
            raise InvalidWish(wish)
        for name in names_of(wish):
            self._check_known(name)
        if not holds(wish, self._page.systems):
            raise Broken(len(self._page.told))
        self._turn_to(self._page.systems, self._page.told + (wish,))

    def lift(self, index):
        """Take away the wish with this index."""
        told = self._page.told
        if not is_integer_from(index, 0) or index >= len(told):
            raise InvalidIndex(index)
        self._turn_to(self._page.systems, told[:index] + told[index + 1:])

    def undo(self):
        """Take back the last change that has not been taken back."""
        if self._page.earlier is None:
            raise NothingToUndo()
        self._page = self._page.earlier

    def trial(self):
        """What stands in a `with` statement: if its rows fail, all is as it was ahead of them."""
        return Trial(self)

    def tried(self, action):
        """Call the function with the book within such a statement, and return what it returns."""
        with Trial(self) as book:
            return action(book)

    def _check_known(self, name):
        if name not in self:
            raise UnknownName(name)

    def _turn_to(self, systems, told):
        self._page = Page(systems, told, self._page)
