"""Heads: a task with one to three terms as its places."""

from soleinstances.errors import InvalidHead, NoPart
from soleinstances.headrows import are_alike, common_head, fitting_heads, is_form, is_more_special, is_open
from soleinstances.headrows import put_in_head, read_head, write_head
from soleinstances.indexes import is_index
from soleinstances.names import is_name
from soleinstances.rows import constructors_of, depth_of, join_rows, split_row, variables_of
from soleinstances.terms import row_of, rows_to_put, term_of


class Head:
    """A head, which never changes."""

    def __init__(self, task, *places):
        if not is_name(task):
            raise InvalidHead(task)
        rows = [row_of(place) for place in places]
        for place, row in zip(places, rows):
            if row is None:
                raise InvalidHead(place)
        if not is_form(task, len(rows)):
            raise InvalidHead(task)
        self.task = task
        self.kept = ((task, len(rows)), join_rows(rows))

    @staticmethod
    def read(text):
        """The head with this text."""
        kept = read_head(text)
        if kept is None:
            raise InvalidHead(text)
        return head_with(kept)

    @property
    def is_closed(self):
        """Whether no variable stands in the head."""
        return not is_open(self.kept)

    @property
    def depth(self):
        """The greatest depth of a place."""
        return depth_of(self.kept[1])

    @property
    def size(self):
        """How many names the places have."""
        return len(self.kept[1])

    def places(self):
        """The list of the places."""
        return [term_of(row) for row in split_row(self.kept[1])]

    def variables(self):
        """The list of the names of the variables, each once, in the order in which they first stand."""
        return variables_of(self.kept[1])

    def constructors(self):
        """The list of tuples (name, number of parts) of the constructors, each once, in the same order."""
        return constructors_of(self.kept[1])

    def put(self, terms):
        """The head in which the variables that are keys of the dict terms are exchanged for its values."""
        rows = rows_to_put(terms)
        if rows is None:
            raise InvalidHead(terms)
        return head_with(put_in_head(self.kept, rows))

    def is_alike(self, other):
        """Whether this head and the other one are at most one another."""
        return are_alike(self.kept, checked_head(other))

    def __getitem__(self, index):
        rows = split_row(self.kept[1])
        if not is_index(index, len(rows)):
            raise NoPart(index)
        return term_of(rows[index])

    def __iter__(self):
        raise TypeError("a head is not iterated over: take its places()")

    def __len__(self):
        return len(split_row(self.kept[1]))

    def __str__(self):
        return str(write_head(self.kept))

    def __repr__(self):
        return f"Head.read({write_head(self.kept)!r})"

    def __eq__(self, other):
        return isinstance(other, Head) and self.kept == other.kept

    def __and__(self, other):
        if not isinstance(other, (Head, str)):
            return NotImplemented
        kept = common_head(self.kept, checked_head(other))
        return None if kept is None else head_with(kept)

    def __rand__(self, other):
        if not isinstance(other, (Head, str)):
            return NotImplemented
        return self & other

    def __le__(self, other):
        if not isinstance(other, (Head, str)):
            return NotImplemented
        return fitting_heads(self.kept, checked_head(other)) is not None

    def __ge__(self, other):
        if not isinstance(other, (Head, str)):
            return NotImplemented
        return fitting_heads(checked_head(other), self.kept) is not None

    def __lt__(self, other):
        if not isinstance(other, (Head, str)):
            return NotImplemented
        return is_more_special(self.kept, checked_head(other))

    def __gt__(self, other):
        if not isinstance(other, (Head, str)):
            return NotImplemented
        return is_more_special(checked_head(other), self.kept)


def head_with(kept):
    """The head that is kept so."""
    head = Head(kept[0][0], "x")
    # The kept head is known to be right: to make the head of its places would check them all again.
    head.kept = kept
    return head


def kept_of(value):
    """The kept head of a Head or of a text of one, None for any other value."""
    if isinstance(value, Head):
        return value.kept
    return read_head(value)


def checked_head(value):
    """The kept head of a Head or of a text of one; raises InvalidHead for any other value."""
    kept = kept_of(value)
    if kept is None:
        raise InvalidHead(value)
    return kept
