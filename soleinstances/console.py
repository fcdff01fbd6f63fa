"""A console: commands, which are lines, on a session."""

from soleinstances.additions import addition
from soleinstances.books import Book
from soleinstances.changes import least_changes
from soleinstances.drafts import read_package
from soleinstances.errors import BadCommand, Clash, SoleError
from soleinstances.later import meetings
from soleinstances.notes import lines_of_program, write_answer
from soleinstances.sessions import Session
from soleinstances.tables import judge

# How many words each command has; what stands last in a long one may have blanks in it.
COMMANDS = {
    "switch": 3, "show": 1, "add": 2, "tell": 3, "undo": 1, "ask": 3, "sound": 2, "least": 2, "lasts": 1, "safe": 3,
}
LONG = ("add", "tell", "safe")
WITH_PLACES = ("sound", "least")
PLACES = ("1", "2", "3")


class Console:
    """A console, on a session that begins with the plain book."""

    def __init__(self):
        self.inner = Session(Book())

    @property
    def session(self):
        """The session."""
        return self.inner

    def enter(self, line):
        """Carries out a command and returns its list of lines."""
        words = _words_of_command(line)
        if words is None:
            raise BadCommand(line, None)
        action = ACTIONS[words[0]]
        try:
            return action(self.inner, words)
        except SoleError as error:
            raise BadCommand(line, error)


def _words_of_command(line):
    """The list of the words of any value that is a command, otherwise None."""
    if not isinstance(line, str):
        return None
    words = line.split(" ")
    if "" in words or words[0] not in COMMANDS:
        return None
    many = COMMANDS[words[0]]
    if len(words) < many or (len(words) > many and words[0] not in LONG):
        return None
    return None if words[0] in WITH_PLACES and words[1] not in PLACES else words


def _switch(session, words):
    """Sets a switch; the lines are those of show."""
    book = session.book
    book.set_part(words[1], words[2])
    session.set_book(book)
    return _show(session, words)


def _show(session, words):
    """The words of the book, and the lines of the program."""
    return [" ".join(session.book.words()), *lines_of_program(session.program)]


def _add(session, words):
    """Adds a package; the line is its name."""
    lines = " ".join(words[1:]).split(" ; ")
    package = read_package(lines, session.program.packages())
    session.add(package)
    return [package.name]


def _tell(session, words):
    """Puts an instance at the end of a package; the line is its text."""
    instance = " ".join(words[2:])
    session.tell(words[1], instance)
    return [instance]


def _undo(session, words):
    """Takes back a change; there are no lines."""
    session.undo()
    return []


def _ask(session, words):
    """Asks a question; the line is the answer, or tells what was found if it clashes."""
    try:
        return [write_answer(session.ask(words[1], words[2]))]
    except Clash as error:
        return [" ".join(["clash", *[f"{name}.{number}" for name, number in error.found]])]


def _sound(session, words):
    """Whether the book is sound; otherwise the lines of a program with a fault follow."""
    verdict = judge(session.book, int(words[1]))
    if verdict.is_sound:
        return [f"sound {verdict.paper[0]}"]
    return [f"unsound {verdict.fault[0]}", *lines_of_program(verdict.program)]


def _least(session, words):
    """The least sets of changes of the book, one in each line."""
    found = []
    for changes in least_changes(session.book, int(words[1])):
        text = " ".join([f"{part}={word}" for part, word in changes])
        found.append(text if text != "" else "-")
    return found


def _lasts(session, words):
    """The instances that can be met, one in each line, with the head that meets it."""
    program = session.program
    found = [f"{name}.{number} {later[0].head}" for name, number, later in meetings(program)]
    return found if len(found) > 0 else ["yes"]


def _safe(session, words):
    """What becomes of an addition, in one line."""
    found = addition(session.program, words[1], " ".join(words[2:]))
    if found.word == "met":
        return [f"met {found.user[0].head}"]
    if found.word == "refused":
        return [f"refused {found.cause.package}.{found.cause.number}"]
    return ["safe"]


ACTIONS = {
    "switch": _switch, "show": _show, "add": _add, "tell": _tell, "undo": _undo, "ask": _ask,
    "sound": _sound, "least": _least, "lasts": _lasts, "safe": _safe,
}
