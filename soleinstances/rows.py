"""Rows: the form in which terms are kept.

The row of a term is the tuple of its names in the order in which they stand, each one as a tuple with its
number of parts: Pair(x,Int) is (("Pair", 2), ("x", 0), ("Int", 0)). The rows of several terms may stand
behind one another in one row. Nothing here calls itself, so that terms may be as deep as they like.
"""

from soleinstances.names import is_constructor, is_name

LETTERS = "abcdefghijklmnopqrstuvwxyz"
MOST_PARTS = 2


def may_have(name, many):
    """Whether any value is a name that may have so many parts."""
    if is_constructor(name):
        return many <= MOST_PARTS
    return is_name(name) and many == 0


def read_row(text):
    """The row of the term with this text, or None for any value that is no text of a term."""
    if not isinstance(text, str):
        return None
    row = guessed_row(text)
    # What is read is a guess, right only if it is a row at all and would be written as this very text.
    if not is_row(row, 1) or write_row(row) != text:
        return None
    return row


def guessed_row(text):
    """The only row that may have this text. Signs that cannot stand where they do are taken for names."""
    names = []
    parts = []
    holders = []
    for word in words_of(text):
        if word == "(" and names:
            holders.append(len(names) - 1)
            parts[-1] = 1
        elif word == "," and holders:
            parts[holders[-1]] = parts[holders[-1]] + 1
        elif word == ")" and holders:
            holders.pop()
        else:
            names.append(word)
            parts.append(0)
    return tuple(zip(names, parts))


def words_of(text):
    """The list of the brackets and commas of a text and of what stands between them, in order."""
    spread = text.replace("(", " ( ").replace(",", " , ").replace(")", " ) ")
    return [word for word in spread.split(" ") if word != ""]


def is_row(row, terms):
    """Whether a row is that of just so many terms, with names that may have their parts."""
    missing = terms
    for name, many in row:
        if missing == 0 or not may_have(name, many):
            return False
        missing = missing - 1 + many
    return missing == 0


def write_row(row):
    """The text of the term with this row, or of anything that is written like a term."""
    pieces = []
    missing = []
    for name, many in row:
        pieces.append(name)
        if many > 0:
            pieces.append("(")
            missing.append(many)
            continue
        while missing and missing[-1] == 1:
            pieces.append(")")
            missing.pop()
        if missing:
            pieces.append(",")
            missing[-1] = missing[-1] - 1
    return "".join(pieces)


def depth_of(row):
    """The depth of the term with this row, or the greatest one of several terms."""
    deepest = 0
    missing = []
    for _, many in row:
        missing.append(many)
        deepest = max(deepest, len(missing))
        while missing and missing[-1] == 0:
            missing.pop()
            if missing:
                missing[-1] = missing[-1] - 1
    return deepest


def ends_of(row):
    """For each place of a row, the place behind the term that begins there."""
    ends = [0] * len(row)
    for at in reversed(range(len(row))):
        end = at + 1
        for _ in range(row[at][1]):
            end = ends[end]
        ends[at] = end
    return ends


def begins(ends, first, behind):
    """The places at which the terms begin that stand behind one another from first to behind."""
    found = []
    at = first
    while at < behind:
        found.append(at)
        at = ends[at]
    return found


def split_row(row):
    """The list of the rows of the terms that stand behind one another in a row."""
    ends = ends_of(row)
    return [row[at:ends[at]] for at in begins(ends, 0, len(row))]


def join_rows(rows):
    """The row in which all these rows stand behind one another."""
    return tuple([entry for row in rows for entry in row])


def variables_of(row):
    """The list of the variables of a row, each once, in the order in which they first stand."""
    return list({name: True for name, _ in row if is_name(name)})


def constructors_of(row):
    """The list of tuples (name, number of parts) of the constructors of a row, each once, in the same order."""
    return list({entry: True for entry in row if is_constructor(entry[0])})


def put_in_row(row, rows):
    """The row in which the variables that are keys of the dict rows are exchanged for its values."""
    return tuple([entry for name, many in row for entry in rows.get(name, ((name, many),))])


def renamed(row, first):
    """The row with the names from this number on for its variables, in the order in which they first stand."""
    names = {}
    for name in variables_of(row):
        names[name] = name_of_number(first + len(names))
    return tuple([(names.get(name, name), many) for name, many in row])


def name_of_number(number):
    """The name of a variable with this number, from 0: a, b, .. z, aa, ab, .."""
    name = ""
    rest = number + 1
    while rest > 0:
        rest, letter = divmod(rest - 1, len(LETTERS))
        name = LETTERS[letter] + name
    return name
