"""What several tests need."""

from soleinstances.packages import Package


class Odd:
    """A value that is nothing the program knows, and cannot be a key."""

    __hash__ = None


class Agreeing:
    """A value that says to be equal to everything."""

    def __eq__(self, other):
        return True


NO_NAMES = [None, True, False, 0, 1, -1, 2.5, b"x", ["x"], ("x",), {"x": "x"}, {"x"}, str, Odd()]
NO_TERM_TEXTS = ["", "List(", "x y", "Pair(x,y,z)", "x(y)", "x,y", "Int ", "x\n", "show(x) if", "abcdefghi"]
NO_HEAD_TEXTS = [
    "", "show", "x", "Int", "List(x)", "show()", "show(x", "show(x))", "show((x))", "show(x)y", "show(x)(y)", " show(x)",
    "show(x) ", "show (x)", "show( x)", "show(x )", "show(x, y)", "show(x,y,z,w)", "show(,)", "show(x,)", "show(,x)",
    "show(x);", "show(x)\n", "show(x,y(z))", "show(Pair(x,y,z))", "Show(x)", "sHow(x)", "shows1(x)", "showshows(x)",
    "show(show(x))", "show(x) if show(x)", "show(abcdefghi)", "(x)", "(", ")", ",", "show(x)show(x)", "show(List(x)",
    "show(List(x)))", "show[x]", "show(x,y", "show,x", "show)x(", "show(INT)", "show(List())",
]
NO_INDEXES = [-1, -2, True, False, None, "0", "x", 0.0, 1.5, b"0", [0], (0, 1), slice(0, 1), 10 ** 30, Odd(), Agreeing()]
NO_PLACES = [0, 4, -1, True, False, None, "1", "x", 1.0, 2.5, [1], (1, 2), {1: 2}, 10 ** 30, Odd(), Agreeing()]


def raised(call, *args, **more):
    """The error class, and the attributes, of the error that a call raises; None if it raises none."""
    try:
        call(*args, **more)
    except Exception as error:
        return (type(error), vars(error))
    return None


def texts(values):
    """The list of the texts of some values."""
    return [str(value) for value in values]


def term_texts(names):
    """The list of the texts of all terms of just so many names, of x, y, Int, List of one part, Pair of two."""
    if names == 0:
        return []
    if names == 1:
        return ["x", "y", "Int"]
    found = [f"List({part})" for part in term_texts(names - 1)]
    for left in range(1, names - 1):
        for one in term_texts(left):
            for other in term_texts(names - 1 - left):
                found.append(f"Pair({one},{other})")
    return found


def base():
    """A package with the constructor Int, the task show, and an instance."""
    return Package("base", constructors={"Int": 0}, tasks={"show": 1}, instances=["show(Int)"])


def lists():
    """A package that uses base, with the constructor List and an instance that wants another one."""
    return Package("lists", base(), constructors={"List": 1}, instances=["show(List(x)) if show(x)"])


def more():
    """A package that uses lists and tells an instance of what it does not own."""
    return Package("more", lists(), instances=["show(List(Int))"])

