"""Who may tell an instance, and what it meets when it is told."""

from soleinstances.errors import Meets, NotOwner, Refused
from soleinstances.headrows import are_alike, common_head, is_more_special
from soleinstances.names import is_name
from soleinstances.packages import seen_told


def may_tell(book, package, number):
    """Whether a package may tell its instance with this number."""
    head = package[number].head
    if book.owner == "anybody" or head.task in package.owned_tasks:
        return True
    tops = [place.top for place in head.places()]
    if book.owner == "any":
        return any([top in package.owned_constructors for top in tops])
    if book.owner == "first":
        return tops[0] in package.owned_constructors
    for top in tops:
        if is_name(top):
            return False
        if top in package.owned_constructors:
            return True
    return False


def met_by(book, package, number):
    """The first instance that an instance meets, as a tuple (package name, number), or None."""
    pattern = package[number].pattern
    for name, index, other in _ahead(book, package, number):
        if _meet(book.look, pattern, other.pattern):
            return (name, index)
    return None


def is_let(book, package):
    """Whether a package may tell all of its instances, and none of them meets another one."""
    try:
        look_at(book, package)
    except Refused:
        return False
    return True


def look_at(book, package):
    """Raises an error for the first instance of a package that it may not tell, or that meets another one."""
    for number, instance in enumerate(package.instances()):
        if not may_tell(book, package, number):
            raise Refused(package.name, number, NotOwner(instance.head.task))
        met = met_by(book, package, number)
        if met is not None:
            raise Refused(package.name, number, Meets(met[0], met[1]))


def _ahead(book, package, number):
    """The list of the instances that one is held against, as they are told."""
    found = []
    for name, index, instance in seen_told(package):
        if name != package.name or (index < number and book.choose != "first"):
            found.append((name, index, instance))
    return found


def _meet(look, one, other):
    """Whether two kept heads of instances meet under a word of the switch look."""
    if look == "nothing" or common_head(one, other) is None:
        return False
    if look == "ladder":
        return not is_more_special(one, other) and not is_more_special(other, one)
    return look == "apart" or are_alike(one, other)
