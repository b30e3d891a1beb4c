"""One order of places in which the forms of many tables fill one stretch each."""

from sameforms.errors import NoTables
from sameforms.kinds import bits, is_form

MOST_ROWS = 12
MOST_PLACES = 10


def one_chain(rows):
    """The least order of the places in which each form of each tuple fills one stretch, or None."""
    if not _are_rows(rows):
        raise NoTables()
    return _completed(rows, (), {})


def _are_rows(thing):
    if not isinstance(thing, (list, tuple)) or not 1 <= len(thing) <= MOST_ROWS:
        return False
    for row in thing:
        if not isinstance(row, tuple) or not 1 <= len(row) <= MOST_PLACES or len(row) != len(thing[0]):
            return False
        for form in row:
            if not is_form(form):
                return False
    return True


def _completed(rows, order, failed):
    """The least order that begins with this one, or None."""
    if len(order) == len(rows[0]):
        return order
    # What can follow is told by which places stand there and which is the last one.
    state = (bits(order), order[-1:])
    if state in failed:
        return None
    left = [place for place in range(len(rows[0])) if place not in order]
    for place in left:
        if _may_follow(rows, order, place, left):
            found = _completed(rows, (*order, place), failed)
            if found is not None:
                return found
    failed[state] = True
    return None


def _may_follow(rows, order, place, left):
    """Whether the place that follows ends no stretch of a form that has places left."""
    if not order:
        return True
    for row in rows:
        last = row[order[-1]]
        if row[place] != last and last in [row[other] for other in left]:
            return False
    return True
