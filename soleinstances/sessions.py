"""Sessions: a program that is changed step by step, where each change can be taken back."""

from soleinstances.errors import BadCommand, DeedFailed, InvalidProgram, NothingToUndo, SoleError
from soleinstances.packages import Package
from soleinstances.programs import Program

# How long the tuples of deeds are, by their first words.
DEEDS = {"add": 2, "tell": 3, "book": 2, "undo": 1}


class Session:
    """A session."""

    def __init__(self, book):
        # The programs of the session, the present one last: a program never changes, so that these can be shared.
        self.states = (Program(book),)

    @property
    def program(self):
        """The present program."""
        return self.states[-1]

    @property
    def book(self):
        """The book of the present program, a new one each time."""
        return self.states[-1].book

    @book.setter
    def book(self, book):
        self.set_book(book)

    def set_book(self, book):
        """Sets the book."""
        self.states = _behind(self.states, ("book", book))

    def add(self, package):
        """Adds a package with all that it sees."""
        self.states = _behind(self.states, ("add", package))

    def tell(self, name, instance):
        """Puts an instance at the end of a package."""
        self.states = _behind(self.states, ("tell", name, instance))

    def ask(self, name, question, told=()):
        """The answer to a question in a package, or None."""
        program = self.program
        return program(name, question, told)

    def undo(self):
        """Takes back the last change that is not yet taken back."""
        self.states = _behind(self.states, ("undo",))

    def do(self, *deeds):
        """Does some deeds in order, or none of them if one fails."""
        states = self.states
        for index, deed in enumerate(deeds):
            if not _is_deed(deed):
                raise DeedFailed(index, BadCommand(deed, None))
            try:
                states = _behind(states, deed)
            except SoleError as error:
                raise DeedFailed(index, error)
        self.states = states

    def trying(self, *packages):
        """What adds some packages for one with block."""
        return Trial(self, packages)

    def tried(self, call, *packages):
        """What a function returns that is called with the session while it has some packages more."""
        with Trial(self, packages) as session:
            return call(session)

    def __iadd__(self, other):
        self.add(other)
        return self

    def __len__(self):
        return len(self.states[1:])


class Trial:
    """Some packages that a session has for one with block."""

    def __init__(self, tried_in, packages):
        self.tried_in = tried_in
        self.added = packages
        self.states = ()

    def __enter__(self):
        session = self.tried_in
        states = session.states
        for index, package in enumerate(self.added):
            if not isinstance(package, Package):
                raise InvalidProgram(index)
            states = _behind(states, ("add", package))
        self.states = session.states
        session.states = states
        return session

    def __exit__(self, kind, value, trace):
        session = self.tried_in
        session.states = self.states


def _is_deed(value):
    """Whether any value is a deed, by its kind, its first word and its length."""
    if not isinstance(value, tuple) or len(value) == 0 or not isinstance(value[0], str):
        return False
    return DEEDS.get(value[0]) == len(value)


def _behind(states, deed):
    """The tuple of the programs of a session behind a deed."""
    if deed[0] == "undo":
        if len(states) == 1:
            raise NothingToUndo()
        return states[:-1]
    return (*states, _changed(states[-1], deed))


def _changed(program, deed):
    """The program behind a deed that is not to take back a change."""
    if deed[0] == "tell":
        return program.with_instance(deed[1], deed[2])
    if deed[0] == "book":
        return program.under(deed[1])
    if not isinstance(deed[1], Package):
        raise InvalidProgram(0)
    return program | deed[1]
