"""What two terms, or two lists of terms, have in common, and whether one is at most the other."""

from soleinstances.errors import InvalidTerm
from soleinstances.joining import common_row, fitting_rows
from soleinstances.rows import join_rows, split_row
from soleinstances.terms import checked_row, row_of, term_of


def common(one, other):
    """The common term of two terms, or the list of those of two lists, or None if they cannot become one."""
    left, right = _both_rows(one, other)
    row = common_row(left, right)
    if row is None:
        return None
    if isinstance(one, list):
        return [term_of(part) for part in split_row(row)]
    return term_of(row)


def is_at_most(one, other):
    """Whether other becomes one while the variables of one are left as they are."""
    left, right = _both_rows(one, other)
    return fitting_rows(left, right) is not None


def fits(one, other):
    """The dict from the variables of other to the terms put for them to get one, or None if there is none."""
    left, right = _both_rows(one, other)
    rows = fitting_rows(left, right)
    if rows is None:
        return None
    return {name: term_of(row) for name, row in rows.items()}


def _both_rows(one, other):
    """The rows of two terms or of two lists of as many terms, each list as one row."""
    left = _row(one)
    right = _row(other)
    if _many(one) != _many(other):
        raise InvalidTerm(other)
    return left, right


def _row(value):
    """The row of a term, or that of a list of terms behind one another; raises InvalidTerm for any other value."""
    if not isinstance(value, list):
        return checked_row(value)
    rows = [row_of(term) for term in value]
    if None in rows:
        raise InvalidTerm(value)
    return join_rows(rows)


def _many(value):
    """The length of a list, None for a term."""
    return len(value) if isinstance(value, list) else None
