"""What rows can become: the common row of two of them, and what must be put into one to get the other.

A row may be that of one term or of several ones behind one another; then a variable is the same in all of them.
"""

from soleinstances.names import is_name
from soleinstances.rows import begins, ends_of, join_rows, renamed, variables_of


def fitting_rows(one, other):
    """None if one is not at most other, otherwise the dict from the variables of other to the rows put for them.

    The rows are those of as many terms.
    """
    ends = ends_of(one)
    found = {}
    at = 0
    for entry in other:
        name = entry[0]
        if is_name(name):
            row = one[at:ends[at]]
            if found.setdefault(name, row) != row:
                return None
            at = ends[at]
        elif one[at] == entry:
            at = at + 1
        else:
            return None
    return found


def common_row(one, other):
    """The most general row that two rows of as many terms become, or None if they cannot become one."""
    # The variables of the two are unlike ones, also where they have the same names.
    row = renamed(one, 0) + renamed(other, len(variables_of(one)))
    ends = ends_of(row)
    firsts = begins(ends, 0, len(one))
    leaders = _leaders(row, ends, list(zip(firsts, begins(ends, len(one), len(row)))))
    if leaders is None:
        return None
    starts = [_leader(leaders, at) for at in firsts]
    order = _parts_first(ends, leaders, starts)
    if order is None:
        return None
    made = {}
    for at in order:
        made[at] = (row[at],) + join_rows([made[part] for part in _led_parts(ends, leaders, at)])
    return renamed(join_rows([made[at] for at in starts]), 0)


def _leaders(row, ends, wanted):
    """The list that leads from each place of a row to one at which the same term must stand.

    The list leads from place to place, and from the last one to itself. None is returned if unlike constructors
    would be the same. wanted has the pairs of places at which the same term is wanted.
    """
    leaders = [row.index(entry) if is_name(entry[0]) else at for at, entry in enumerate(row)]
    pairs = list(wanted)
    while pairs:
        left, right = pairs.pop()
        one = _leader(leaders, left)
        other = _leader(leaders, right)
        if is_name(row[one][0]):
            leaders[one] = other
        elif is_name(row[other][0]):
            leaders[other] = one
        elif row[one] != row[other]:
            return None
        elif one != other:
            # Places that lead to one another are not compared again: this keeps the number of steps low.
            leaders[one] = other
            for pair in zip(_parts(ends, one), _parts(ends, other)):
                pairs.append(pair)
    return leaders


def _leader(leaders, place):
    """The last place to which a place leads."""
    at = place
    while leaders[at] != at:
        at = leaders[at]
    return at


def _parts(ends, place):
    """The places at which the parts of the term begin that begins at a place."""
    return begins(ends, place + 1, ends[place])


def _led_parts(ends, leaders, place):
    """The last places to which the parts of the term lead that begins at a place."""
    return [_leader(leaders, part) for part in _parts(ends, place)]


def _parts_first(ends, leaders, starts):
    """The list of the places of some terms and of all that stands in them, each once, parts ahead of what holds them.

    None is returned if a term would stand within itself.
    """
    order = []
    done = {}
    waiting = list(starts)
    while waiting:
        at = waiting[-1]
        if at in done:
            waiting.pop()
            if not done[at]:
                done[at] = True
                order.append(at)
            continue
        # Until all its parts are done, a place waits with False: a part that waits so holds the place itself.
        done[at] = False
        for part in _led_parts(ends, leaders, at):
            if not done.get(part, True):
                return None
            waiting.append(part)
    return order
