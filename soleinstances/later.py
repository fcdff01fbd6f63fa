"""Later packages: which instances of a program can be met by one that could be written behind it."""

from soleinstances.books import Book
from soleinstances.errors import InvalidBook, InvalidInstance, Undecided
from soleinstances.instances import instance_of
from soleinstances.packages import MOST_SEEN, Package
from soleinstances.rows import name_of_number


def open_place(book, instance):
    """The index of the place at which a later package can tell a constructor of its own, or None."""
    if not isinstance(book, Book):
        raise InvalidBook(None)
    told = instance_of(instance)
    if told is None:
        raise InvalidInstance(None)
    check_owner(book, told)
    for index, place in enumerate(told.head.places()):
        if place.is_variable and (index == 0 or book.owner == "early"):
            return index
    return None


def meeting(program, name, number):
    """A later package that meets an instance, or None if it cannot be met."""
    package = program[name]
    instance = package[number]
    check_room(program)
    return _meeting(program, package, instance)


def lasts(program):
    """Whether no instance of a program can be met."""
    check_room(program)
    # All are looked at, also behind one that can be met: a later one may be undecided.
    found = [_meeting(program, package, told) for package in program.packages() for told in package.instances()]
    return all([later is None for later in found])


def meetings(program):
    """Tuples (name, number, Package) of the instances that can be met and a later package that meets each."""
    check_room(program)
    for package in program.packages():
        for number, instance in enumerate(package.instances()):
            later = _meeting(program, package, instance)
            if later is not None:
                yield (package.name, number, later)


def new_names(taken, many, *, upper=False):
    """The list of the first names of n, na, nb, .. nz, naa, .., so many of them, that are not in a list."""
    first = "N" if upper else "n"
    found = []
    number = 0
    name = first
    while len(found) < many:
        if name not in taken:
            found.append(name)
        name = first + name_of_number(number)
        number = number + 1
    return found


def check_room(program):
    """Raises an error if a program has no room for one package more."""
    if len(program) >= MOST_SEEN:
        raise Undecided("packages")


def check_owner(book, instance):
    """Raises an error if, by who may tell an instance, a later package may meet this one without seeing it."""
    if book.owner == "anybody" or (book.owner == "any" and len(instance.head) > 1):
        raise Undecided("owner")


def user_of(program, package, instance):
    """A package that uses just this one of a program and tells the head of an instance, closed by own constructors."""
    owned = [name for held in program.packages() for name in held.constructors()]
    variables = instance.head.variables()
    fresh = new_names(owned, len(variables), upper=True)
    told = instance.head.put(dict(zip(variables, fresh)))
    name = new_names(program.names(), 1)[0]
    return Package(name, package, constructors={word: 0 for word in fresh}, instances=[str(told)])


def _meeting(program, package, instance):
    """A later package that meets an instance of a package of a program, or None."""
    index = open_place(program.book, instance)
    if index is None or program.book.look == "apart":
        return None
    return user_of(program, package, instance)
