"""Names: of variables, packages and tasks in lowercase letters, of constructors with an uppercase one first."""

MOST_LETTERS = 8


def is_name(value):
    """Whether any value is the name of a variable, a package or a task."""
    return _is_word(value) and value.islower()


def is_constructor(value):
    """Whether any value is the name of a constructor."""
    if not _is_word(value):
        return False
    rest = value[1:]
    return value[0].isupper() and (rest == "" or rest.islower())


def _is_word(value):
    """Whether any value is a string of as many letters a to z and A to Z as a name may have."""
    if not isinstance(value, str) or len(value) > MOST_LETTERS:
        return False
    return value.isascii() and value.isalpha()
