"""Changes of a book: which sets of them make it sound, and which of these are least."""

from soleinstances.books import SWITCHES, all_books, is_change
from soleinstances.errors import InvalidBook
from soleinstances.grounds import check_book, check_places, is_sound_for
from soleinstances.least import least_program


def is_good(book, changes, places=3):
    """Whether any value is a list of changes of a book with which it is sound."""
    check_book(book)
    check_places(places)
    return _are_changes(book, changes) and is_sound_for(book.changed(changes), places)


def least_changes(book, places=3):
    """The list of all least sets of changes: fewer ones first, then by the switches, then by the words."""
    check_book(book)
    check_places(places)
    found = []
    for many in range(len(SWITCHES) + 1):
        # Sets of as many changes are no parts of one another.
        shorter = list(found)
        for changes in _sets(book, many):
            if is_sound_for(book.changed(changes), places) and not _has_part(shorter, changes):
                found.append(changes)
    return found


def sound_books(places=3):
    """All sound books, in the order of all_books."""
    check_places(places)
    for book in all_books():
        if is_sound_for(book, places):
            yield book


def floor(book, changes, places=3):
    """For a least set the list of tuples (rest, program, fault), one for each change that is left out."""
    check_book(book)
    check_places(places)
    if not _are_changes(book, changes) or changes not in least_changes(book, places):
        raise InvalidBook(changes)
    found = []
    for at in range(len(changes)):
        rest = changes[:at] + changes[at + 1:]
        program, fault = least_program(book.changed(rest), places)
        found.append((rest, program, fault))
    return found


def _are_changes(book, value):
    """Whether any value is a list of changes of a book, at most one of each switch."""
    if not isinstance(value, list):
        return False
    parts = []
    for entry in value:
        if not is_change(entry) or entry[0] in parts or book[entry[0]] == entry[1]:
            return False
        parts.append(entry[0])
    return True


def _sets(book, many):
    """The list of the sets of so many changes of a book, by the switches and then by the words."""
    found = []
    for parts in _parts_of(list(SWITCHES), many):
        rows = [[]]
        for part in parts:
            rows = [[*row, (part, word)] for row in rows for word in SWITCHES[part] if word != book[part]]
        found.extend(rows)
    return found


def _parts_of(parts, many):
    """The list of the lists of so many of some switches, in order."""
    found = [[]]
    for _ in range(many):
        found = [[*row, part] for row in found for part in _behind_all(parts, row)]
    return found


def _behind_all(parts, row):
    """The list of the switches behind the last one of a list of some of them."""
    return parts if len(row) == 0 else parts[parts.index(row[-1]) + 1:]


def _has_part(sets, changes):
    """Whether one of some sets of changes is a part of another one."""
    return any([all([change in changes for change in one]) for one in sets])
