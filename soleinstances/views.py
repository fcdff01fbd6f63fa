"""Views: a package in which questions are asked, under a book."""

from soleinstances.asking import Asking
from soleinstances.books import Book
from soleinstances.errors import InvalidBook, InvalidQuestion, InvalidTold, InvalidUse, TooLarge
from soleinstances.growing import Growing, is_tree_of
from soleinstances.headrows import is_open
from soleinstances.heads import kept_of
from soleinstances.matching import can_ask, is_too_large, matches_in, others_in, told_by_form
from soleinstances.packages import Package

MOST_TOLD = 4


class View:
    """A view, which is called with a question and never changes."""

    def __init__(self, book, package):
        if not isinstance(book, Book):
            raise InvalidBook(None)
        if not isinstance(package, Package):
            raise InvalidUse(None)
        self.rules = book.twin()
        self.package = package

    @property
    def book(self):
        """The book, a new one each time."""
        return self.rules.twin()

    def __call__(self, question, told=()):
        asked = _checked_question(self.package, question)
        taken = _checked_told(self.package, told)
        return Asking(self.rules, self.package, taken).ask(asked)

    def matches(self, question):
        """Tuples (package name, number) of the seen instances whose head the question is at most, as they are told."""
        asked = _checked_question(self.package, question)
        for one in matches_in(told_by_form(self.package), asked):
            yield one[:2]

    def could(self, question):
        """Those of the instances that are no match while their head can become one with the question, likewise."""
        asked = _checked_question(self.package, question)
        for other in others_in(told_by_form(self.package), asked):
            yield other

    def is_tree(self, question, value, told=()):
        """Whether any value is a tree of a question."""
        asked = _checked_question(self.package, question)
        taken = _checked_told(self.package, told)
        return is_tree_of(self.package, taken, asked, value)

    def trees(self, question, told=()):
        """All trees of a question: those of told wants, then those of matches, the trees of the first want slowest."""
        asked = _checked_question(self.package, question)
        taken = _checked_told(self.package, told)
        for tree in Growing(self.package, taken).grow(asked):
            yield tree


def can_be_told(package, question):
    """Whether a kept head can be a told want in a package."""
    return is_open(question) and can_ask(package, question)


def _checked_question(package, question):
    """The kept question, if it can be asked in a package; otherwise an error is raised."""
    kept = kept_of(question)
    if kept is None:
        raise InvalidQuestion(question)
    if is_too_large(kept):
        raise TooLarge(len(kept[1]))
    package.check(question)
    return kept


def _checked_told(package, told):
    """The list of the kept told wants, if they can be told in a package; otherwise an error is raised."""
    if not isinstance(told, (list, tuple)):
        raise InvalidTold(None)
    taken = []
    for number, value in enumerate(told):
        want = kept_of(value)
        if number >= MOST_TOLD or want is None or not can_be_told(package, want):
            raise InvalidTold(number)
        taken.append(want)
    return taken
