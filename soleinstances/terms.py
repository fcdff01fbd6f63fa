"""Terms: a variable, or a constructor with up to two terms as its parts."""

from soleinstances.errors import InvalidTerm, NoPart
from soleinstances.indexes import is_index
from soleinstances.joining import common_row, fitting_rows
from soleinstances.names import is_name
from soleinstances.rows import constructors_of, depth_of, join_rows, may_have, put_in_row, read_row, split_row
from soleinstances.rows import variables_of, write_row


class Term:
    """A term, which never changes."""

    def __init__(self, top, *parts):
        if not may_have(top, 0):
            raise InvalidTerm(top)
        rows = [checked_row(part) for part in parts]
        if not may_have(top, len(rows)):
            raise InvalidTerm(top)
        self.row = ((top, len(rows)),) + join_rows(rows)

    @staticmethod
    def read(text):
        """The term with this text."""
        row = read_row(text)
        if row is None:
            raise InvalidTerm(text)
        return term_of(row)

    @property
    def top(self):
        """The name that stands first."""
        return self.row[0][0]

    @property
    def is_variable(self):
        """Whether the term is a variable."""
        return is_name(self.top)

    @property
    def is_closed(self):
        """Whether no variable stands in the term."""
        return len(variables_of(self.row)) == 0

    @property
    def depth(self):
        """One without parts, otherwise one more than the greatest depth of a part."""
        return depth_of(self.row)

    def parts(self):
        """The list of the parts."""
        return [term_of(row) for row in split_row(self.row[1:])]

    def variables(self):
        """The list of the names of the variables, each once, in the order in which they first stand."""
        return variables_of(self.row)

    def constructors(self):
        """The list of tuples (name, number of parts) of the constructors, each once, in the same order."""
        return constructors_of(self.row)

    def put(self, terms):
        """The term in which the variables that are keys of the dict terms are exchanged for its values."""
        rows = rows_to_put(terms)
        if rows is None:
            raise InvalidTerm(terms)
        return term_of(put_in_row(self.row, rows))

    def __getitem__(self, index):
        rows = split_row(self.row[1:])
        if not is_index(index, len(rows)):
            raise NoPart(index)
        return term_of(rows[index])

    def __iter__(self):
        raise TypeError("a term is not iterated over: take its parts()")

    def __contains__(self, name):
        return isinstance(name, str) and name in [entry[0] for entry in self.row]

    def __len__(self):
        return len(self.row)

    def __bool__(self):
        return True

    def __str__(self):
        return str(write_row(self.row))

    def __repr__(self):
        return f"Term.read({write_row(self.row)!r})"

    def __eq__(self, other):
        return isinstance(other, Term) and self.row == other.row

    def __and__(self, other):
        if not isinstance(other, (Term, str)):
            return NotImplemented
        row = common_row(self.row, checked_row(other))
        return None if row is None else term_of(row)

    def __rand__(self, other):
        return self & other

    def __le__(self, other):
        if not isinstance(other, (Term, str)):
            return NotImplemented
        return fitting_rows(self.row, checked_row(other)) is not None

    def __ge__(self, other):
        if not isinstance(other, (Term, str)):
            return NotImplemented
        return fitting_rows(checked_row(other), self.row) is not None

    def __lt__(self, other):
        if not isinstance(other, (Term, str)):
            return NotImplemented
        row = checked_row(other)
        return fitting_rows(self.row, row) is not None and fitting_rows(row, self.row) is None

    def __gt__(self, other):
        if not isinstance(other, (Term, str)):
            return NotImplemented
        row = checked_row(other)
        return fitting_rows(row, self.row) is not None and fitting_rows(self.row, row) is None


def term_of(row):
    """The term with a row, which must be that of one term."""
    term = Term(row[0][0])
    # The row is known to be right: to make the term of its parts would check them all again.
    term.row = row
    return term


def row_of(value):
    """The row of a Term or of a text of one, None for any other value."""
    if isinstance(value, Term):
        return value.row
    return read_row(value)


def checked_row(value):
    """The row of a Term or of a text of one; raises InvalidTerm for any other value."""
    row = row_of(value)
    if row is None:
        raise InvalidTerm(value)
    return row


def rows_to_put(terms):
    """The dict from names to rows for a dict from names of variables to Terms or texts, None for any other value."""
    if not isinstance(terms, dict):
        return None
    rows = {}
    for name, term in terms.items():
        row = row_of(term)
        if row is None or not is_name(name):
            return None
        rows[name] = row
    return rows
