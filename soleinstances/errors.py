"""The errors of the package: each tells in its attributes what was wrong."""


class SoleError(ValueError):
    """The base class of all errors of the package."""


class InvalidName(SoleError):
    """A value that is no name."""

    def __init__(self, value):
        self.value = value


class InvalidTerm(SoleError):
    """A value that is no term, or cannot stand where terms are wanted."""

    def __init__(self, value):
        self.value = value


class InvalidHead(SoleError):
    """A value that is no head, or cannot stand where heads are wanted."""

    def __init__(self, value):
        self.value = value


class NoPart(SoleError):
    """A value that is the index of no part and no place."""

    def __init__(self, number):
        self.number = number


class InvalidInstance(SoleError):
    """A head or a want that cannot stand in an instance."""

    def __init__(self, number):
        self.number = number


class InvalidUse(SoleError):
    """A package that another one cannot use."""

    def __init__(self, number):
        self.number = number


class InvalidOwned(SoleError):
    """Constructors, tasks or instances that a package cannot own."""

    def __init__(self, value):
        self.value = value


class NameTaken(SoleError):
    """A name that another package has, or owns something by."""

    def __init__(self, name):
        self.name = name


class InvalidTold(SoleError):
    """An instance that a package cannot tell, or a want that cannot be told."""

    def __init__(self, number):
        self.number = number


class NotSeen(SoleError):
    """A name that a package does not see."""

    def __init__(self, name):
        self.name = name


class WrongPlaces(SoleError):
    """A name that stands with another number of places than it has."""

    def __init__(self, name):
        self.name = name


class UnknownName(SoleError):
    """A value that is the name of no package here."""

    def __init__(self, name):
        self.name = name


class NoInstance(SoleError):
    """A value that is the number of no instance."""

    def __init__(self, number):
        self.number = number


class InvalidBook(SoleError):
    """A switch or a word that a book cannot have, or a value that is no book."""

    def __init__(self, part):
        self.part = part


class UnlikeBooks(SoleError):
    """Two programs with unlike books."""


class NotOwner(SoleError):
    """A task of which a package may not tell an instance."""

    def __init__(self, task):
        self.task = task


class Meets(SoleError):
    """Another instance, which one that is told meets."""

    def __init__(self, package, number):
        self.package = package
        self.number = number


class Refused(SoleError):
    """An instance of a package that the book does not let."""

    def __init__(self, package, number, reason):
        self.package = package
        self.number = number
        self.reason = reason


class InvalidQuestion(SoleError):
    """A value that is no question."""

    def __init__(self, value):
        self.value = value


class TooLarge(SoleError):
    """A question that has too many names or is too deep."""

    def __init__(self, amount):
        self.amount = amount


class Clash(SoleError):
    """A question with several candidates of which none is chosen."""

    def __init__(self, question, found):
        self.question = question
        self.found = found


class InvalidProgram(SoleError):
    """A value that cannot be a package of a program."""

    def __init__(self, number):
        self.number = number


class InvalidDepth(SoleError):
    """A value that is no depth for lists of terms and questions."""

    def __init__(self, value):
        self.value = value


class TooMany(SoleError):
    """More trees, terms or questions than are listed."""

    def __init__(self, limit):
        self.limit = limit


class InvalidPlaces(SoleError):
    """A value that is no number of places of a task."""

    def __init__(self, value):
        self.value = value


class Undecided(SoleError):
    """A part of a book or a program under which something is not decided."""

    def __init__(self, part):
        self.part = part


class NothingToUndo(SoleError):
    """No change that can be taken back."""


class DeedFailed(SoleError):
    """A deed of several that failed, so that all of them were taken back."""

    def __init__(self, number, reason):
        self.number = number
        self.reason = reason


class InvalidText(SoleError):
    """A line of a text that is of no form."""

    def __init__(self, line):
        self.line = line


class BadCommand(SoleError):
    """A command or a deed that is none, or failed."""

    def __init__(self, line, reason):
        self.line = line
        self.reason = reason
