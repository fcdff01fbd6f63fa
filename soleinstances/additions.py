"""Additions: one instance more at the end of a package, and whether all users of the package get by with it."""

from soleinstances.errors import InvalidInstance, Refused, Undecided
from soleinstances.headrows import fitting_heads
from soleinstances.instances import instance_of
from soleinstances.later import check_owner, check_room, open_place, user_of
from soleinstances.looks import look_at
from soleinstances.packages import seen_told


class Addition:
    """What is told of an addition."""

    def __init__(self, name, told, behind, breaking, refusal):
        self.name = name
        self.told = told
        self.behind = behind
        self.breaking = breaking
        self.refusal = refusal

    @property
    def word(self):
        """Whether the addition is refused, met or safe."""
        if self.behind is None:
            return "refused"
        return "safe" if self.breaking is None else "met"

    @property
    def program(self):
        """The program behind the addition, None if it is refused."""
        return self.behind

    @property
    def user(self):
        """A later package that breaks, for an addition that is met; otherwise None."""
        return self.breaking

    @property
    def cause(self):
        """The error by which the program, or the user, is refused behind the addition; None if it is safe."""
        return self.refusal

    @property
    def instance(self):
        """The instance that is added."""
        return self.told

    def __bool__(self):
        return self.refusal is None


def addition(program, name, instance):
    """What is told of one instance more at the end of a package of a program."""
    package = program[name]
    told = instance_of(instance)
    if told is None:
        raise InvalidInstance(None)
    _check_decided(program, told)
    made = package.with_instance(told)
    try:
        behind = program.with_instance(name, told)
    except Refused as error:
        return Addition(name, told, None, None, Refused(error.package, error.number, error.reason))
    if open_place(program.book, told) is None or _is_below_another(package, told):
        return Addition(name, told, behind, None, None)
    user = user_of(program, package, told)
    return Addition(name, told, behind, user, _refusal(program.book, user.using(made)))


def safe_additions(program, name, instances):
    """The list of those of a list or tuple of instances that are safe, each alone, as they were handed in."""
    return [instance for instance in instances if bool(addition(program, name, instance))]


def _check_decided(program, instance):
    """Raises an error if it is not decided what becomes of an addition to a program."""
    check_room(program)
    book = program.book
    if book.look != "apart":
        raise Undecided("look")
    check_owner(book, instance)
    if book.wants != "behind" and (book.owner == "any" or book.choose == "first"):
        raise Undecided("wants")
    if book.early != "refused" and book.choose == "first":
        raise Undecided("early")


def _is_below_another(package, instance):
    """Whether the head of an instance is at most that of one that a package sees."""
    for _, _, other in seen_told(package):
        if fitting_heads(instance.pattern, other.pattern) is not None:
            return True
    return False


def _refusal(book, package):
    """The error with which a package is refused by a book, or None."""
    try:
        look_at(book, package)
    except Refused as error:
        return Refused(error.package, error.number, error.reason)
    return None
