"""Questions and the instances that match them. Questions are kept heads here."""

from soleinstances.errors import NotSeen, WrongPlaces
from soleinstances.headrows import common_head, entries_of, is_larger
from soleinstances.instances import wants_for
from soleinstances.packages import check_entries, seen_told

MOST_NAMES = 12
MOST_DEPTH = 4


def is_too_large(question):
    """Whether a question has too many names or is too deep."""
    return is_larger(question, MOST_NAMES, MOST_DEPTH)


def can_ask(package, question):
    """Whether a question can be asked in a package."""
    if is_too_large(question):
        return False
    try:
        check_entries(package.known, entries_of(question))
    except (NotSeen, WrongPlaces):
        return False
    return True


def told_by_form(package):
    """The dict from the forms of heads to the lists of tuples (package name, number, Instance) that have them."""
    told = {}
    for entry in seen_told(package):
        told.setdefault(entry[2].pattern[0], []).append(entry)
    return told


def matches_in(told, question):
    """The list of tuples (package name, number, kept head, list of kept wants) of the matches, as they are told.

    told is what told_by_form tells of the package.
    """
    found = []
    for name, number, instance in told.get(question[0], []):
        wants = wants_for(instance, question)
        if wants is not None:
            found.append((name, number, instance.pattern, wants))
    return found


def others_in(told, question):
    """The list of tuples (package name, number) of those that are no match while their head can become one with it."""
    found = []
    for name, number, instance in told.get(question[0], []):
        if wants_for(instance, question) is None and common_head(instance.pattern, question) is not None:
            found.append((name, number))
    return found
