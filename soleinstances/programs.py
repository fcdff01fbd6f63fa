"""Programs: packages that are let by a book, with all that they see."""

from soleinstances.books import Book
from soleinstances.errors import InvalidBook, InvalidProgram, NameTaken, UnknownName, UnlikeBooks
from soleinstances.looks import look_at
from soleinstances.packages import MOST_SEEN, Package, all_seen, first_taken
from soleinstances.views import View


class Program:
    """A program, which never changes."""

    def __init__(self, book, *packages):
        if not isinstance(book, Book):
            raise InvalidBook(None)
        for index, package in enumerate(packages):
            if not isinstance(package, Package):
                raise InvalidProgram(index)
        held = all_seen(packages)
        taken = first_taken(held)
        if taken is not None:
            raise NameTaken(taken)
        if len(held) > MOST_SEEN:
            raise InvalidProgram(None)
        for package in held:
            look_at(book, package)
        self.rules = book.twin()
        self.held = held

    @property
    def book(self):
        """The book, a new one each time."""
        return self.rules.twin()

    def packages(self):
        """The list of the packages, in order."""
        return list(self.held)

    def names(self):
        """The list of the names of the packages, in order."""
        return [package.name for package in self.held]

    def many_instances(self):
        """The number of the instances of all packages."""
        return sum([len(package) for package in self.held])

    def view(self, name):
        """The view of a package."""
        return View(self.rules, self[name])

    def under(self, book):
        """A program with the same packages and another book."""
        return Program(book, *self.held)

    def with_instance(self, name, instance):
        """The program in which a package has one instance more at its end, also for those that see this package."""
        made = self[name].with_instance(instance)
        packages = [_with_package(package, made) for package in self.held]
        return Program(self.rules, *packages)

    def __call__(self, name, question, told=()):
        view = self.view(name)
        return view(question, told)

    def __getitem__(self, name):
        if name not in self:
            raise UnknownName(name)
        return self.held[self.names().index(name)]

    def __iter__(self):
        raise TypeError("a program is not iterated over: take its packages()")

    def __contains__(self, name):
        return isinstance(name, str) and name in self.names()

    def __len__(self):
        return len(self.held)

    def __repr__(self):
        return f"Program of {self.names()!r}"

    def __eq__(self, other):
        return isinstance(other, Program) and self.rules == other.rules and self.held == other.held

    def __or__(self, other):
        if isinstance(other, Package):
            return Program(self.rules, *self.held, other)
        if not isinstance(other, Program):
            return NotImplemented
        if self.rules != other.rules:
            raise UnlikeBooks()
        packages = self.held + other.held
        return Program(self.rules, *packages)

    def __ror__(self, other):
        if not isinstance(other, Package):
            return NotImplemented
        return Program(self.rules, other, *self.held)

    def __ior__(self, other):
        return self | other


def _with_package(package, made):
    """A package with one that was made anew in its own place, or in the place of the one that it sees, if it does."""
    if package.name == made.name:
        return made
    return package.using(made) if package.sees(made.name) else package
