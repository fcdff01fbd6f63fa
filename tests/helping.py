"""What several tests need."""


class Odd:
    """A value that is nothing the program knows, and cannot be a key."""

    __hash__ = None


class Agreeing:
    """A value that says to be equal to everything."""

    def __eq__(self, other):
        return True


NO_NAMES = [None, True, False, 0, 1, -1, 2.5, b"x", ["x"], ("x",), {"x": "x"}, {"x"}, str, Odd()]


def raised(call, *args, **more):
    """The error class, and the attributes, of the error that a call raises; None if it raises none."""
    try:
        call(*args, **more)
    except Exception as error:
        return (type(error), vars(error))
    return None


def term_texts(names):
    """The list of the texts of all terms of just so many names, of x, y, Int, List of one part, Pair of two."""
    if names == 0:
        return []
    if names == 1:
        return ["x", "y", "Int"]
    found = [f"List({part})" for part in term_texts(names - 1)]
    for left in range(1, names - 1):
        for one in term_texts(left):
            for other in term_texts(names - 1 - left):
                found.append(f"Pair({one},{other})")
    return found
