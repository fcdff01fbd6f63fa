"""Lists of the terms and questions of a package, as rows and kept heads."""

from soleinstances.errors import InvalidDepth, TooMany
from soleinstances.indexes import is_index
from soleinstances.matching import MOST_NAMES
from soleinstances.rows import variables_of

VARIABLES = ("x", "y")
MOST_DEPTH = 3
MOST_TERMS = 300
MOST_QUESTIONS = 2000


def term_rows(package, deep, variables):
    """The list of the rows of all terms of at most this depth, of these variables and the seen constructors.

    Those of less depth stand first, then by the top, variables ahead, then by the parts, the first one slowest.
    Raises InvalidDepth, and TooMany if there are more than are listed.
    """
    if not is_index(deep, MOST_DEPTH + 1) or deep == 0:
        raise InvalidDepth(deep)
    entries = [(name, 0) for name in variables]
    for seen in package.seen():
        entries.extend(list(seen.constructors().items()))
    if _many_terms(entries, deep) > MOST_TERMS:
        raise TooMany(MOST_TERMS)
    rows = [(entry,) for entry in entries if entry[1] == 0]
    first = 0
    for _ in range(deep - 1):
        deeper = _deeper_rows(entries, rows, first)
        first = len(rows)
        rows = rows + deeper
    return rows


def closed_questions(package, deep):
    """The list of the kept heads of all closed questions with terms of at most this depth, by tasks and places."""
    rows = term_rows(package, deep, ())
    return _questions(package, rows, rows, rows)


def questions_with_variables(package, deep):
    """The list of the kept heads of such questions in which x stands, and perhaps y behind it."""
    rows = term_rows(package, deep, VARIABLES)
    ahead = [row for row in rows if VARIABLES[1] not in variables_of(row)[:1]]
    begun = [row for row in ahead if len(variables_of(row)) > 0]
    return _questions(package, rows, ahead, begun)


def _many_terms(entries, deep):
    """How many terms of at most a depth there are of the variables and constructors with these numbers of parts."""
    many = 0
    for _ in range(deep):
        choices = (1, many, many * many)
        many = sum([choices[parts] for _, parts in entries])
    return many


def _deeper_rows(entries, rows, first):
    """The list of the rows of the terms that are deeper by one than those of a list, of which the deepest are last.

    first is the index at which the deepest ones begin: one of these is a part of each deeper term.
    """
    deepest = rows[first:]
    pairs = [one + other for at, one in enumerate(rows) for other in (rows if at >= first else deepest)]
    choices = ([], deepest, pairs)
    return [(entry,) + parts for entry in entries for parts in choices[entry[1]]]


def _questions(package, rows, ahead, begun):
    """The list of the kept heads of the questions of all seen tasks, with the terms of some rows at their places.

    Where no variable stands ahead, the rows of ahead are taken, at the last place those of begun.
    Raises TooMany if there are more than are listed.
    """
    found = []
    for seen in package.seen():
        for task, places in seen.tasks().items():
            made = [()]
            for left in reversed(range(places)):
                made = _longer_rows(made, rows, ahead if left > 0 else begun, left, MOST_QUESTIONS - len(found))
            found.extend([((task, places), row) for row in made])
    return found


def _longer_rows(made, rows, fresh, left, most):
    """The list of the rows of some places with one place more, while some are left behind it.

    Behind a row without variables the rows of fresh are taken. Raises TooMany if there are more than most: each of
    them is that of a question, or begins one.
    """
    longer = []
    for one in made:
        room = MOST_NAMES - left - len(one)
        behind = rows if len(variables_of(one)) > 0 else fresh
        longer.extend([one + row for row in behind if len(row) <= room])
        if len(longer) > most:
            raise TooMany(MOST_QUESTIONS)
    return longer
