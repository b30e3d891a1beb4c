"""All orders of the common marks and all books in a row that make a table."""

from sameforms.books import Book
from sameforms.errors import NoNumber, NoOrder, NotMade
from sameforms.kinds import all_within, is_between, lies_within
from sameforms.tables import common, is_spoken, spoken

# Going through all orders would take too long for twelve forms, so what can
# stand behind others is counted once for each lot of forms. A lot is an integer
# here: the bits of its forms' places among the ascending forms. The options of
# a form are pairs (marks, ahead): what its entry may have, and the lot of the
# forms none of which may stand behind it then.


def _orders(table):
    """For each form the one option of its common marks."""
    # Orders are told by their forms alone, so the marks, which would be compared first, are left out.
    return [[((), _ahead(table, common(table, form)))] for form in spoken(table)]


def _rows(table):
    """For each form the options of all marks that can be its entry's."""
    return [[(marks, _ahead(table, marks)) for marks in all_within(common(table, form))] for form in spoken(table)]


def _ahead(table, marks):
    """The lot of the forms at whose cells an entry of these marks fits, its own form with them."""
    forms = spoken(table)
    ahead = 0
    for cell, form in zip(table.family.cells, table.forms):
        if form is not None and lies_within(marks, cell):
            ahead = ahead | (1 << forms.index(form))
    return ahead


def _ways(options):
    """For each lot of forms how often it can stand behind all others."""
    tallies = [_tally(choices) for choices in options]
    ways = [1]
    for lot in range(1, 1 << len(options)):
        ways.append(0)
        for place, rest in _rests(len(options), lot):
            free = sum([many for ahead, many in tallies[place].items() if not ahead & rest])
            ways[lot] += free * ways[rest]
    return ways


def _tally(choices):
    """How many of the options need each lot of forms ahead."""
    tally = {}
    for _, ahead in choices:
        tally[ahead] = tally.get(ahead, 0) + 1
    return tally


def _rests(many, lot):
    """The pairs of a place in the lot and the lot without it."""
    return [(place, lot - (1 << place)) for place in range(many) if lot >> place & 1]


def _heads(forms, options, lot):
    """The pairs of an entry that can stand first in the lot and the lot behind it."""
    return [((marks, forms[place]), rest) for place, rest in _rests(len(forms), lot)
            for marks, ahead in options[place] if not ahead & rest]


def _entries_at(table, options, number):
    """The entries with this number, ascending."""
    ways = _ways(options)
    if not is_between(0, ways[-1] - 1, number):
        raise NoNumber()
    lot = len(ways) - 1
    entries = []
    while lot:
        for entry, rest in sorted(_heads(spoken(table), options, lot)):
            if number < ways[rest]:
                break
            number -= ways[rest]
        entries.append(entry)
        lot = rest
    return tuple(entries)


def _number_of(table, options, entries):
    """The number of these entries, None if they are none that are numbered."""
    ways = _ways(options)
    lot = len(ways) - 1
    number = 0
    for wanted in entries:
        heads = sorted(_heads(spoken(table), options, lot))
        places = [place for place, (entry, _) in enumerate(heads) if entry == wanted]
        if not places:
            return None
        number += sum([ways[rest] for _, rest in heads[:places[0]]])
        lot = heads[places[0]][1]
    return None if lot else number


def count_orders(table):
    """How many orders of the forms make the table by their common marks."""
    return _ways(_orders(table))[-1]


def order_at(table, number):
    """The order with this number."""
    return tuple([form for _, form in _entries_at(table, _orders(table), number)])


def order_number(table, order):
    """The number of this order."""
    if not isinstance(order, tuple) or not all([is_spoken(table, form) for form in order]):
        raise NoOrder()
    number = _number_of(table, _orders(table), [((), form) for form in order])
    if number is None:
        raise NoOrder()
    return number


def count_rows(table):
    """How many plain books in a row, an entry for each form, make the table."""
    return _ways(_rows(table))[-1]


def row_at(table, number):
    """The book with this number among those of count_rows."""
    return Book("row", _entries_at(table, _rows(table), number), None)


def row_number(table, book):
    """The number of this book among those of count_rows."""
    number = _number_of(table, _rows(table), book.entries) if book.manner == "row" else None
    if number is None:
        raise NotMade()
    return number


def lightest(table):
    """The least number of marks of a book of count_rows, and such a book, or None."""
    options = _rows(table)
    forms = spoken(table)
    best = [(0, ())]
    for lot in range(1, 1 << len(options)):
        best.append(_lightest_of(forms, options, best, lot))
    if best[-1] is None:
        return None
    many, entries = best[-1]
    return many, Book("row", entries, None)


def _lightest_of(forms, options, best, lot):
    """The pair of the least number of marks and entries for this lot, or None."""
    found = None
    for place, rest in _rests(len(forms), lot):
        free = [marks for marks, ahead in options[place] if not ahead & rest]
        if best[rest] is None or not free:
            continue
        marks = min(free, key=len)
        many = len(marks) + best[rest][0]
        if found is None or many < found[0]:
            found = (many, ((marks, forms[place]), *best[rest][1]))
    return found


def must_have(table):
    """The dict from the forms to the marks of their entries in all books of count_rows, or None."""
    options = _rows(table)
    ways = _ways(options)
    if not ways[-1]:
        return None
    shared = {}
    met = {len(ways) - 1: True}
    for lot in reversed(range(1, len(ways))):
        if lot not in met:
            continue
        for (marks, form), rest in _heads(spoken(table), options, lot):
            met[rest] = True
            shared[form] = tuple([mark for mark in shared.get(form, marks) if mark in marks])
    return shared
