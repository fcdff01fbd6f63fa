"""Kept heads: the form in which heads are kept.

A kept head is the tuple of its form, which is the task with its number of places, and of the row of its places:
join(x,Int) is (("join", 2), (("x", 0), ("Int", 0))). It can be a key of a dict.
"""

from soleinstances.joining import common_row, fitting_rows
from soleinstances.names import is_name
from soleinstances.rows import constructors_of, depth_of, guessed_row, is_row, put_in_row, variables_of, write_row

MOST_PLACES = 3


def is_form(task, many):
    """Whether any value is a task, which may have so many places."""
    return is_name(task) and 1 <= many <= MOST_PLACES


def read_head(text):
    """The kept head with this text, or None for any value that is no text of a head."""
    if not isinstance(text, str):
        return None
    row = guessed_row(text)
    if len(row) == 0:
        return None
    task, many = row[0]
    # As with terms, what is read is a guess.
    if not is_form(task, many) or not is_row(row[1:], many) or write_row(row) != text:
        return None
    return (row[0], row[1:])


def write_head(head):
    """The text of a kept head."""
    return write_row((head[0],) + head[1])


def is_open(head):
    """Whether a kept head has variables."""
    return len(variables_of(head[1])) > 0


def is_larger(head, names, depth):
    """Whether a kept head has more than so many names or a term of more than this depth."""
    return len(head[1]) > names or depth_of(head[1]) > depth


def entries_of(head):
    """The list of tuples (name, number of places) of the task and then of the constructors of a kept head."""
    return [head[0], *constructors_of(head[1])]


def put_in_head(head, rows):
    """The kept head in which the variables that are keys of the dict rows are exchanged for its values."""
    return (head[0], put_in_row(head[1], rows))


def fitting_heads(one, other):
    """None if one kept head is not at most other, otherwise the dict from the variables of other to the rows put."""
    if one[0] != other[0]:
        return None
    return fitting_rows(one[1], other[1])


def is_more_special(one, other):
    """Whether one kept head is at most the other one, and the other one is not at most it."""
    return fitting_heads(one, other) is not None and fitting_heads(other, one) is None


def are_alike(one, other):
    """Whether each of two kept heads is at most the other one."""
    return fitting_heads(one, other) is not None and fitting_heads(other, one) is not None


def common_head(one, other):
    """The most general kept head that two kept heads become, or None if they cannot become one."""
    if one[0] != other[0]:
        return None
    row = common_row(one[1], other[1])
    return None if row is None else (one[0], row)
