"""The least programs with a fault, for each book that is not sound."""

from soleinstances.grounds import check_book, check_places, is_sound_for, reason_for
from soleinstances.heads import Head
from soleinstances.packages import Package
from soleinstances.programs import Program
from soleinstances.terms import Term


def least_program(book, places=3):
    """None for a sound book, otherwise a tuple of a program with the fewest packages and instances, and its fault."""
    check_book(book)
    check_places(places)
    if is_sound_for(book, places):
        return None
    if book.look != "apart" and book.choose == "sole":
        return _general_and_special(book, ("clash", "one", Head("show", "Int")))
    if book.choose == "special" and (book.look == "same" or book.look == "nothing"):
        return _crossing(book)
    if book.early == "once" and (book.choose == "first" or book.look == "ladder"):
        return _general_and_special(book, _early_fault("one", "Int"))
    # From here on no program of one package has a fault.
    if book.owner == "anybody":
        return _orphan(book)
    if reason_for(book) is not None:
        return _strangers(book)
    if book.choose == "first":
        return _later_user(book, ("clash", "two", Head("show", "New")))
    return _later_user(book, _early_fault("two", "New"))


def _general_and_special(book, fault):
    """One package with a special instance and a general one behind it."""
    one = Package("one", constructors={"Int": 0}, tasks={"show": 1}, instances=["show(Int)", "show(x)"])
    return (Program(book, one), fault)


def _crossing(book):
    """One package with two instances of which neither is more special, while their heads can become one."""
    told = ["show(Pair(x,Int))", "show(Pair(Int,x))"]
    one = Package("one", constructors={"Int": 0, "Pair": 2}, tasks={"show": 1}, instances=told)
    return (Program(book, one), ("clash", "one", Head("show", "Pair(Int,Int)")))


def _orphan(book):
    """A package that tells an instance of which it owns nothing."""
    one = Package("one", constructors={"Int": 0}, tasks={"show": 1})
    two = Package("two", one, instances=["show(Int)"])
    return (Program(book, two), ("part", "one", "two", Head("show", "Int")))


def _later_user(book, fault):
    """A package with a general instance, and one behind it with a special one."""
    one = Package("one", tasks={"show": 1}, instances=["show(x)"])
    two = Package("two", one, constructors={"New": 0}, instances=["show(New)"])
    return (Program(book, two), fault)


def _strangers(book):
    """Two packages that do not know one another, each with an instance of a task of a third one; a fourth sees both."""
    one = Package("one", tasks={"join": 2})
    left = Package("left", one, constructors={"Left": 0}, instances=["join(Left,x)"])
    right = Package("right", one, constructors={"Right": 0}, instances=["join(x,Right)"])
    both = Package("both", left, right)
    return (Program(book, both), ("clash", "both", Head("join", "Left", "Right")))


def _early_fault(other, constructor):
    """The fault that the early answer to show(x) in the first package is not that of a closing in another one."""
    return ("early", "one", Head("show", "x"), (), other, (("x", Term(constructor)),))
