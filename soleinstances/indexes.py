"""Indexes, which count from 0."""


def is_index(value, many):
    """Whether any value is the index of one of so many things."""
    if isinstance(value, bool) or not isinstance(value, int):
        return False
    return 0 <= value < many
