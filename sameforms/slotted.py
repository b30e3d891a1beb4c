"""Forms in pieces: joinings of a table's forms, and slots, which part all forms."""

from itertools import combinations

from sameforms.counting import all_patterns
from sameforms.errors import TooMany
from sameforms.holding import cell_bits
from sameforms.opens import made_so, need_manner
from sameforms.tables import is_spoken, need_closed, spoken

MOST_JOINED = 6

# A joining is worked with as a dict here, from the forms to the numbers of their tuples.


def _made_joinings(table, manner):
    """The list of all joinings, of few forms, that are made."""
    need_manner(manner)
    need_closed(table)
    forms = spoken(table)
    if len(forms) > MOST_JOINED:
        raise TooMany(MOST_JOINED)
    joinings = [{form: name for form, name in zip(forms, names)} for names in all_patterns(len(forms))]
    return [joining for joining in joinings if _is_made_joined(table, joining, manner)]


def _is_made_joined(table, joining, manner):
    return made_so(cell_bits(table.family), [joining[form] for form in table.forms], manner)


def _pairs(table):
    """The ascending list of the pairs of the table's forms."""
    forms = list(spoken(table))
    return list(combinations(forms, 2))


def _are_parted(joinings, pair):
    """Whether some of the joinings has the two forms in unlike tuples."""
    return any([joining[pair[0]] != joining[pair[1]] for joining in joinings])


def slots(table, manner):
    """As few joinings that are made as can be that part all forms, or None."""
    if never_parted(table, manner) is not None:
        return None
    # What bars a table bars each joining that parts the forms of a ring, or two forms that are
    # shrunk to equal marks. So where all can be parted, the table is made as it stands.
    apart = tuple([(form,) for form in spoken(table)])
    return [apart] if len(apart) > 1 else []


def never_parted(table, manner):
    """The least pair of forms that no joining that is made parts, or None."""
    joinings = _made_joinings(table, manner)
    for pair in _pairs(table):
        if not _are_parted(joinings, pair):
            return pair
    return None


def is_slots(table, manner, thing):
    """Whether the thing is a list of joinings that are made and part all forms."""
    need_manner(manner)
    need_closed(table)
    if not isinstance(thing, list) or not all([_is_joining(table, joining) for joining in thing]):
        return False
    joinings = [{form: number for number, lot in enumerate(joining) for form in lot} for joining in thing]
    if not all([_is_made_joined(table, joining, manner) for joining in joinings]):
        return False
    return all([_are_parted(joinings, pair) for pair in _pairs(table)])


def _is_joining(table, thing):
    """Whether the thing is an ascending tuple of ascending tuples that have each form once."""
    if not isinstance(thing, tuple):
        return False
    for lot in thing:
        if not isinstance(lot, tuple) or not lot or not all([is_spoken(table, form) for form in lot]):
            return False
        if sorted(lot) != list(lot):
            return False
    forms = sorted([form for lot in thing for form in lot])
    return forms == list(spoken(table)) and sorted(thing) == list(thing)
