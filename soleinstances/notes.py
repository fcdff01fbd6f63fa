"""Notes: programs and answers as texts."""

from soleinstances.drafts import lines_of, package_of, read_drafts
from soleinstances.errors import InvalidText
from soleinstances.grounds import check_book
from soleinstances.names import is_name
from soleinstances.programs import Program
from soleinstances.rows import words_of

MOST_DIGITS = 3
MOST_BRACKETS = 60


def write_program(program):
    """The text of a program."""
    return "\n".join(lines_of_program(program))


def read_program(book, text):
    """The program with a book that is written so."""
    check_book(book)
    if not isinstance(text, str):
        raise InvalidText(None)
    lines = text.split("\n") if text != "" else []
    packages = []
    for draft in read_drafts(lines, len(lines)):
        packages.append(package_of(draft, packages))
    return Program(book, *packages)


def write_answer(answer):
    """The text of an answer, or of None."""
    if answer is None:
        return "none"
    pieces = []
    # Nothing here calls itself: an answer may be as deep as it likes.
    waiting = [answer]
    while len(waiting) > 0:
        part = waiting.pop()
        if isinstance(part, str):
            pieces.append(part)
            continue
        name, number, wants = part
        pieces.append(f"{name}.{number}" if name != "" else f"?{number}")
        if len(wants) > 0:
            waiting.extend(_last_first(wants))
    return "".join(pieces)


def read_answer(text):
    """The answer, or None, that is written so."""
    if not isinstance(text, str):
        raise InvalidText(None)
    if text == "none":
        return None
    answer = _read(words_of(text))
    # What is read is a guess, right only if it would be written as this very text.
    if answer is None or write_answer(answer) != text:
        raise InvalidText(None)
    return answer


def lines_of_program(program):
    """The list of the lines of a program."""
    return [line for package in program.packages() for line in lines_of(package)]


def _last_first(wants):
    """The list of some answers with the signs around and between them, the last one first."""
    row = ["("]
    for want in wants:
        row.extend([want, ","])
    row[-1] = ")"
    return row[::-1]


def _read(words):
    """The answer that may be written with these brackets, commas and words between them, or None."""
    holders = []
    tree = None
    for word in words:
        if word == "(":
            if tree is None or tree[0] == "" or len(tree[2]) > 0 or len(holders) == MOST_BRACKETS:
                return None
            holders.append((tree, []))
            tree = None
        elif word == "," or word == ")":
            if tree is None or len(holders) == 0:
                return None
            holder, wants = holders[-1]
            wants.append(tree)
            tree = None
            if word == ")":
                holders.pop()
                tree = (holder[0], holder[1], tuple(wants))
        else:
            if tree is not None:
                return None
            tree = _read_leaf(word)
    return tree if len(holders) == 0 else None


def _read_leaf(word):
    """The tree without wants, or of a told want, that may be written so, or None."""
    name, sign, digits = word.partition(".")
    if word[:1] == "?":
        name, digits = "", word[1:]
    elif sign == "" or not is_name(name):
        return None
    if len(digits) > MOST_DIGITS or not digits.isascii() or not digits.isdigit():
        return None
    return (name, int(digits), ())
