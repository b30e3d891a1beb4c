"""Shrinking: which plain books that speak by holding make a table."""

from itertools import combinations

from sameforms.books import MARKS, Book, fitting, speaking
from sameforms.errors import NoSets, TooMany
from sameforms.kinds import all_within, bits, is_cell, is_place, lies_within, marks_of
from sameforms.tables import is_spoken, spoken

MOST_CHOICES = 20000
MOST_LISTED = 1000
MOST_SETS = 12


def cell_bits(family):
    """The list of the family's cells as bits."""
    return [bits(cell) for cell in family.cells]


def common_bits(lots, forms):
    """The dict from the forms told at these cells (bits) to the bits that all their cells have."""
    shared = {}
    for lot, form in zip(lots, forms):
        if form is not None:
            shared[form] = shared.get(form, lot) & lot
    return shared


def shrink(lots, forms):
    """The dict from the forms to the bits that strikes leave them, and the list of the strikes."""
    left = common_bits(lots, forms)
    names = list(left)
    done = []
    before = -1
    while before < len(done):
        before = len(done)
        for number, other in enumerate(forms):
            if other is None:
                continue
            for form in names:
                if _is_struck(left, form, other, lots[number]):
                    left[form] = left[form] & left[other]
                    done.append((form, other, number))
    return left, done


def _is_struck(left, form, other, lot):
    """Whether the form loses marks by this cell (bits) of another form."""
    # No form has a mark that it has not itself, so the two are unlike where this holds.
    return not left[form] & ~lot and left[form] & ~left[other] != 0


def shrunk(table):
    """The dict from the forms to the marks that are left when no strike is."""
    left, _ = shrink(cell_bits(table.family), table.forms)
    return {form: marks_of(lot) for form, lot in left.items()}


def strikes(table):
    """Strikes, one behind another, that lead to what shrunk tells."""
    _, done = shrink(cell_bits(table.family), table.forms)
    return done


def within_book(table):
    """The plain book of the shrunk marks that makes the table by holding, or None."""
    if _first_equal(table) is not None:
        return None
    left = shrunk(table)
    return Book("within", tuple([(left[form], form) for form in spoken(table)]), None)


def _first_equal(table):
    """Two forms, the lesser one first, whose shrunk marks are equal, or None."""
    left = shrunk(table)
    forms = list(spoken(table))
    for one, other in combinations(forms, 2):
        if left[one] == left[other]:
            return one, other
    return None


def shrunk_bar(table):
    """The triple of strikes and two forms whose marks are equal behind them, or None."""
    pair = _first_equal(table)
    return None if pair is None else (strikes(table), *pair)


def is_shrunk_bar(table, thing):
    """Whether the thing is a triple as shrunk_bar tells it."""
    if not isinstance(thing, tuple) or len(thing) != 3 or not isinstance(thing[0], list):
        return False
    done, one, other = thing
    if not is_spoken(table, one) or not is_spoken(table, other) or one >= other:
        return False
    left = _left_behind(table, done)
    return left is not None and left[one] == left[other] and not _can_strike(table, left)


def _left_behind(table, done):
    """What the forms have left (bits) behind these strikes, None if one of them is none."""
    lots = cell_bits(table.family)
    left = common_bits(lots, table.forms)
    for strike in done:
        if not _names_strike(table, strike):
            return None
        form, other, number = strike
        if not _is_struck(left, form, other, lots[number]):
            return None
        left[form] = left[form] & left[other]
    return left


def _names_strike(table, thing):
    """Whether the thing is a triple of two forms and a cell of the second one."""
    if not isinstance(thing, tuple) or len(thing) != 3:
        return False
    if not is_spoken(table, thing[0]) or not is_spoken(table, thing[1]):
        return False
    return is_place(table.forms, thing[2]) and table.forms[thing[2]] == thing[1]


def _can_strike(table, left):
    for lot, other in zip(cell_bits(table.family), table.forms):
        if other is not None and any([_is_struck(left, form, other, lot) for form in left]):
            return True
    return False


def limit_choices(options, most):
    """Refuses options, of which one each is chosen, with more choices than so many."""
    many = 1
    for lots in options:
        many *= len(lots)
    if many > most:
        raise TooMany(most)


def choices(table, options, manner):
    """All ways to choose marks from each form's options, ascending, such that no two forms bar each other.

    For "within" and "most" these are just the entries that make the table; for "weights"
    there must be weights that go with them, too.
    """
    forms = spoken(table)
    heard = {marks: _heard(table, marks) for lots in options for marks in lots}
    found = [()]
    for form, lots in zip(forms, options):
        found = [(*chosen, marks) for chosen in found for marks in lots
                 if _goes_with(heard, manner, forms, chosen, form, marks)]
    return found


def _heard(table, marks):
    """The forms at whose cells an entry of these marks fits."""
    told = [(cell, form) for cell, form in zip(table.family.cells, table.forms) if form is not None]
    return [form for cell, form in told if lies_within(marks, cell)]


def _goes_with(heard, manner, forms, chosen, form, marks):
    """Whether these marks of a form bar none of the forms whose marks are chosen, nor are barred."""
    for other, held in zip(forms, chosen):
        if other in heard[marks] and not _gives_way(manner, marks, held):
            return False
        if form in heard[held] and not _gives_way(manner, held, marks):
            return False
    return True


def _gives_way(manner, marks, held):
    """Whether an entry of these marks can be outdone by one of those held, where both fit."""
    if manner == "weights":
        return not lies_within(held, marks)
    return len(marks) < len(held) and (manner == "most" or lies_within(marks, held))


def _withins(table):
    left = shrunk(table)
    options = [all_within(left[form]) for form in spoken(table)]
    limit_choices(options, MOST_CHOICES)
    return choices(table, options, "within")


def count_withins(table):
    """How many plain books, an entry for each form, make the table by holding."""
    return len(_withins(table))


def all_withins(table):
    """The list of the tuples of the marks, by form, of the books of count_withins."""
    found = _withins(table)
    if len(found) > MOST_LISTED:
        raise TooMany(MOST_LISTED)
    return found


def by_sets(family, sets):
    """For each cell the number of the set that speaks there by holding, or None."""
    if not _are_sets(sets):
        raise NoSets()
    # The forms do not matter: what speaks is told by its number.
    book = Book("within", tuple([(marks, "a") for marks in sets]), None)
    return tuple([speaking(book, fitting(book, cell)) for cell in family.cells])


def _are_sets(thing):
    if not isinstance(thing, (list, tuple)) or not 1 <= len(thing) <= MOST_SETS:
        return False
    for marks in thing:
        if not is_cell(MARKS, marks):
            return False
    return len(set(thing)) == len(thing)
