"""Weights for told sets of marks, or the mixture that bars them."""

from sameforms.books import MARKS
from sameforms.errors import NoSets, TooMany
from sameforms.kinds import is_cell, is_integer, is_place, lies_within
from sameforms.tables import common, is_spoken, spoken

MOST_MARKS_FOR_LEAST = 4

# Where another form's set lies within a cell, the set of the cell's own form must
# weigh more. Such a need is a column here: for each mark 1 if it is in the own set
# alone, -1 if in the other one alone. Weights make the sum over each column 1 or
# more; a mixture is times for columns such that no mark's sum is above 0.


def need_sets(table, sets):
    """Refuses what are no sets for the table."""
    if not _are_sets(table, sets):
        raise NoSets()


def _are_sets(table, thing):
    if not isinstance(thing, dict) or len(thing) != len(spoken(table)):
        return False
    for form in spoken(table):
        if form not in thing or not is_cell(MARKS, thing[form]):
            return False
        if not lies_within(thing[form], common(table, form)):
            return False
    return True


def _needs(table, sets):
    """The dict from the columns to the least pair of a cell and another form that needs it."""
    found = {}
    for number, (cell, own) in enumerate(zip(table.family.cells, table.forms)):
        if own is None:
            continue
        for form in spoken(table):
            if form != own and lies_within(sets[form], cell):
                found.setdefault(_column(sets[own], sets[form]), (number, form))
    return found


def _column(own, other):
    return tuple([int(mark in own) - int(mark in other) for mark in range(MARKS)])


def solved(columns):
    """The pair of weights for the columns and None, or of None and times for them."""
    # The simplex method, for the greatest sum of times: all bounds are 0, so the sum
    # is 0, and what the bounds cost then are weights, or it has no end, and what grows
    # is a mixture. Everything is an integer over the last pivot; the least numbers are
    # chosen throughout, so no basis comes back.
    many = len(columns)
    rows = [[column[mark] for column in columns] + _alone(mark) for mark in range(MARKS)]
    costs = [-1] * many + [0] * MARKS
    basis = [many + mark for mark in range(MARKS)]
    pivot = 1
    while min(costs) < 0:
        entering = [place for place, cost in enumerate(costs) if cost < 0][0]
        leaving = _leaving(rows, basis, entering)
        if leaving is None:
            return None, _growing(rows, basis, entering, pivot)[:many]
        head = rows[leaving]
        rows = [row if place == leaving else _cleared(row, head, entering, pivot) for place, row in enumerate(rows)]
        costs = _cleared(costs, head, entering, pivot)
        basis[leaving] = entering
        pivot = head[entering]
    return tuple(costs[many:]), None


def _alone(mark):
    """1 for this mark, 0 for each other one."""
    return [int(mark == other) for other in range(MARKS)]


def _leaving(rows, basis, entering):
    """The row that bounds what enters, the one with the least number in the basis, or None."""
    bounds = [(number, place) for place, (row, number) in enumerate(zip(rows, basis)) if row[entering] > 0]
    return min(bounds)[1] if bounds else None


def _cleared(row, head, entering, pivot):
    """The row with 0 where it enters, over the head's pivot in the place of the old one."""
    return [(here * head[entering] - row[entering] * there) // pivot for here, there in zip(row, head)]


def _growing(rows, basis, entering, pivot):
    """How much everything grows with what enters, which nothing bounds."""
    times = [0] * len(rows[0])
    times[entering] = pivot
    for row, number in zip(rows, basis):
        times[number] = -row[entering]
    return times


def found_weights(table, sets):
    """As weights_for, of what surely are sets."""
    return solved(list(_needs(table, sets)))[0]


def weights_for(table, sets):
    """Weights with which a book of these sets makes the table, or None."""
    need_sets(table, sets)
    return found_weights(table, sets)


def mixture(table, sets):
    """A mixture, which bars all weights, or None."""
    need_sets(table, sets)
    needs = _needs(table, sets)
    times = solved(list(needs))[1]
    if times is None:
        return None
    return sorted([(*needs[column], many) for column, many in zip(list(needs), times) if many])


def is_mixture(table, sets, thing):
    """Whether the thing is a mixture."""
    need_sets(table, sets)
    if not isinstance(thing, list) or not thing:
        return False
    ahead = (-1, "")
    sums = [0] * MARKS
    for triple in thing:
        if not _is_mixed(table, sets, triple) or (triple[0], triple[1]) <= ahead:
            return False
        ahead = (triple[0], triple[1])
        column = _column(sets[table.forms[triple[0]]], sets[triple[1]])
        sums = [old + triple[2] * sign for old, sign in zip(sums, column)]
    return max(sums) <= 0


def _is_mixed(table, sets, thing):
    """Whether the thing is a triple of a told cell, another form that fits there, and times."""
    if not isinstance(thing, tuple) or len(thing) != 3:
        return False
    cell, form, times = thing
    if not is_place(table.forms, cell) or table.forms[cell] is None:
        return False
    if not is_spoken(table, form) or form == table.forms[cell]:
        return False
    return lies_within(sets[form], table.family.cells[cell]) and is_integer(times) and times >= 1


def least_weights(table, sets):
    """The weights of the least sum, of these the least tuple, or None."""
    need_sets(table, sets)
    marks = [mark for mark in range(MARKS) if any([mark in lot for lot in sets.values()])]
    if len(marks) > MOST_MARKS_FOR_LEAST:
        raise TooMany(MOST_MARKS_FOR_LEAST)
    columns = list(_needs(table, sets))
    if solved(columns)[0] is None:
        return None
    shares = _least_shares([[column[mark] for mark in marks] for column in columns], len(marks))
    weights = {mark: share for mark, share in zip(marks, shares)}
    return tuple([weights.get(mark, 0) for mark in range(MARKS)])


def _least_shares(columns, many):
    """The least tuple of the least sum of so many weights that go with the columns; there must be some."""
    total = 0
    while True:
        for shares in _all_shares(total, many):
            if _go_with(shares, columns):
                return shares
        total += 1


def _all_shares(total, many):
    """The ascending list of the tuples of so many integers from 0 with this sum."""
    if many == 0:
        return [] if total else [()]
    return [(first, *rest) for first in range(total + 1) for rest in _all_shares(total - first, many - 1)]


def _go_with(shares, columns):
    for column in columns:
        if sum([share * sign for share, sign in zip(shares, column)]) < 1:
            return False
    return True
