"""Reaches and rings: whether a plain book in a row makes a table."""

from sameforms.books import Book
from sameforms.errors import NoForm
from sameforms.kinds import is_place, lies_within
from sameforms.tables import common, is_spoken, spoken


def reaches(table):
    """The dict from pairs of forms to the least cell by which the one reaches the other."""
    found = {}
    for form in spoken(table):
        marks = common(table, form)
        for number, other in enumerate(table.forms):
            if other is None or other == form or (form, other) in found:
                continue
            if lies_within(marks, table.family.cells[number]):
                found[(form, other)] = number
    return found


def _links(table):
    """For each form the list of the forms that it reaches."""
    pairs = list(reaches(table))
    return {form: [there for here, there in pairs if here == form] for form in spoken(table)}


def ring(table):
    """A shortest ring, or None."""
    links = _links(table)
    rounds = [forms for forms in [_way_back(links, form) for form in links] if forms is not None]
    return _ring_of(table, min(rounds, key=len)) if rounds else None


def ring_by(table, form):
    """A shortest ring that has this form, or None."""
    if not is_spoken(table, form):
        raise NoForm()
    forms = _way_back(_links(table), form)
    return None if forms is None else _ring_of(table, forms)


def _way_back(links, form):
    """The forms of a shortest ring that begins with this form, or None."""
    came_from = {}
    front = [form]
    while front:
        further = []
        for here in front:
            for there in links[here]:
                if there == form:
                    return _way_to(came_from, form, here)
                if there not in came_from:
                    came_from[there] = here
                    further.append(there)
        front = further
    return None


def _way_to(came_from, form, last):
    way = [last]
    while way[-1] != form:
        way.append(came_from[way[-1]])
    return way[::-1]


def _ring_of(table, forms):
    cells = reaches(table)
    following = [*forms[1:], forms[0]]
    return tuple([(here, cells[(here, there)]) for here, there in zip(forms, following)])


def is_ring(table, thing):
    """Whether the thing is a ring of the table."""
    if not _are_steps(table, thing):
        return False
    forms = [form for form, _ in thing]
    if len(set(forms)) < len(forms):
        return False
    for (form, cell), there in zip(thing, [*forms[1:], forms[0]]):
        if table.forms[cell] != there or not lies_within(common(table, form), table.family.cells[cell]):
            return False
    return True


def _are_steps(table, thing):
    """Whether the thing is a tuple of two pairs or more of a form and the number of a cell."""
    if not isinstance(thing, tuple) or len(thing) < 2:
        return False
    for step in thing:
        if not isinstance(step, tuple) or len(step) != 2:
            return False
        if not is_spoken(table, step[0]) or not is_place(table.forms, step[1]):
            return False
    return True


def row_book(table):
    """A plain book in a row that makes the table, or None."""
    found = levels(table)
    if found is None:
        return None
    # A form fits the cells of those that it reaches, so these stand ahead of it.
    forms = sorted(spoken(table), key=lambda spot: found[spot])
    return Book("row", tuple([(common(table, form), form) for form in forms]), None)


def levels(table):
    """The dict from the forms to their levels, None if there is a ring."""
    links = _links(table)
    found = {}
    level = 0
    while len(found) < len(links):
        ready = [form for form in links if form not in found and all([there in found for there in links[form]])]
        if not ready:
            return None
        for form in ready:
            found[form] = level
        level += 1
    return found


def loose(table):
    """The pairs of forms of which each can stand ahead of the other one."""
    found = levels(table)
    if found is None:
        return []
    below = _all_reached(_links(table), found)
    forms = spoken(table)
    return [(one, other) for one in forms for other in forms
            if one < other and other not in below[one] and one not in below[other]]


def _all_reached(links, found):
    """For each form a dict of all that it reaches, straight or by others."""
    below = {}
    for form in sorted(list(links), key=lambda spot: found[spot]):
        below[form] = {}
        for there in links[form]:
            below[form][there] = True
            below[form].update(below[there])
    return below
