"""Why a book is sound: what keeps instances apart, and whose heads are kept apart."""

from soleinstances.books import Book
from soleinstances.errors import InvalidBook, InvalidPlaces
from soleinstances.headrows import MOST_PLACES
from soleinstances.indexes import is_index


def check_book(book):
    """Raises an error for any value that is no Book."""
    if not isinstance(book, Book):
        raise InvalidBook(None)


def check_places(places):
    """Raises an error for any value that is no number of places of a task."""
    if not is_index(places, MOST_PLACES + 1) or places == 0:
        raise InvalidPlaces(places)


def reason_for(book):
    """The reason of soundness that look, choose and early give, or None."""
    if book.look == "ladder" and book.choose == "special" and book.early == "refused":
        return "ladder"
    if book.look != "apart":
        return None
    if book.choose != "first":
        return "apart"
    return None if book.early == "once" else "first"


def is_sound_for(book, places):
    """Whether a book is sound for tasks of up to so many places."""
    return reason_for(book) is not None and _keeps_apart(book.owner, places)


def _keeps_apart(owner, places):
    """Whether the heads of packages of which neither sees the other are always apart, by the word of the owner."""
    if owner == "any":
        # At one place the own constructor stands in both; at two, each head may have a variable where the other has it.
        return places == 1
    return owner == "early" or owner == "first"
