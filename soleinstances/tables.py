"""Tables of shapes: papers of soundness, and what is told of a book."""

from soleinstances.grounds import check_book, check_places, is_sound_for, reason_for
from soleinstances.indexes import is_index
from soleinstances.least import least_program

SHAPE_WORDS = ("own", "seen", "any")


class Verdict:
    """What is told of a book: that it is sound, with a paper, or that it is not, with a program and its fault."""

    def __init__(self, ground, least):
        self.ground = ground
        self.least = least

    @property
    def is_sound(self):
        """Whether the book is sound."""
        return self.least is None

    @property
    def paper(self):
        """A paper of soundness, a new one each time, or None."""
        return None if self.ground is None else (self.ground[0], list(self.ground[1]))

    @property
    def program(self):
        """The least program with a fault, or None."""
        return None if self.least is None else self.least[0]

    @property
    def fault(self):
        """The fault of the least program, or None."""
        return None if self.least is None else self.least[1]

    def __bool__(self):
        return self.least is None


def shapes(book, places):
    """The list of the shapes of just so many places that the owner lets, the last place changes first."""
    check_book(book)
    check_places(places)
    rows = [()]
    for _ in range(places):
        rows = [(*row, word) for row in rows for word in SHAPE_WORDS]
    return [row for row in rows if _is_let_by(book.owner, row)]


def apart_at(one, other):
    """The index of the first place at which two shapes are surely apart, or None."""
    for index in range(min(len(one), len(other))):
        if _are_apart_at(one, other, index):
            return index
    return None


def reason_of(book):
    """The reason of soundness that look, choose and early give, or None."""
    check_book(book)
    return reason_for(book)


def sound_paper(book, places=3):
    """A paper of soundness, or None if the book is not sound."""
    check_book(book)
    check_places(places)
    if not is_sound_for(book, places):
        return None
    rows = []
    for one, other in _pairs(book, places):
        rows.append((one, other, apart_at(one, other)))
    return (reason_for(book), rows)


def is_sound_paper(book, places, value):
    """Whether any value is a paper of soundness for this book and tasks of up to so many places."""
    check_book(book)
    check_places(places)
    if not isinstance(value, tuple) or len(value) != 2:
        return False
    reason, rows = value
    wanted = reason_for(book)
    if wanted is None or not isinstance(reason, str) or reason != wanted or not isinstance(rows, list):
        return False
    pairs = _pairs(book, places)
    told = {}
    for row in rows:
        number = _number_of(pairs, row)
        if number is None:
            return False
        told[number] = True
    return len(told) == len(pairs)


def judge(book, places=3):
    """The verdict on a book for tasks of up to so many places."""
    return Verdict(sound_paper(book, places), least_program(book, places))


def _is_let_by(owner, shape):
    """Whether a package that does not own the task may tell heads of a shape, by the word of the owner."""
    if owner == "anybody":
        return True
    if owner == "any":
        return "own" in shape
    if owner == "first":
        return shape[0] == "own"
    return "own" in shape and "any" not in shape[:shape.index("own")]


def _are_apart_at(one, other, index):
    """Whether two shapes are surely apart at a place."""
    words = (one[index], other[index])
    return words == ("own", "own") or words == ("own", "seen") or words == ("seen", "own")


def _pairs(book, places):
    """The list of the tuples of each two shapes that the owner lets, each two once, of up to so many places."""
    found = []
    for many in range(1, places + 1):
        rows = shapes(book, many)
        found.extend([(one, other) for at, one in enumerate(rows) for other in rows[at:]])
    return found


def _number_of(pairs, row):
    """The index of the pair of shapes in a list that any value is a row for, or None if it is for none of them."""
    if not isinstance(row, tuple) or len(row) != 3 or not _is_shape(row[0]) or not _is_shape(row[1]):
        return None
    one, other, index = row
    for number, pair in enumerate(pairs):
        if pair == (one, other) or pair == (other, one):
            fine = is_index(index, len(pair[0])) and _are_apart_at(pair[0], pair[1], index)
            return number if fine else None
    return None


def _is_shape(value):
    """Whether any value is a tuple of words that can be a shape."""
    return isinstance(value, tuple) and all([isinstance(word, str) for word in value])
