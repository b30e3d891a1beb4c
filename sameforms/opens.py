"""Open cells: which forms they can bear, and in how many ways."""

from itertools import combinations

from sameforms.errors import NoCell, NoManner, NotMade, TooMany
from sameforms.holding import cell_bits, common_bits, shrink
from sameforms.kinds import bits, is_place, marks_of
from sameforms.tables import filled, open_cells, spoken, told_cells

MANNERS_OF_MAKING = ("row", "within")
MOST_WAYS = 20000
MOST_LISTED = 1000


def need_manner(thing):
    """Refuses what is no manner by which tables are made."""
    if not isinstance(thing, str) or thing not in MANNERS_OF_MAKING:
        raise NoManner()


def few_told(table, manner, most):
    """The list of the numbers of the told cells, of which there must not be more than so many."""
    need_manner(manner)
    cells = told_cells(table)
    if len(cells) > most:
        raise TooMany(most)
    return cells


def made_so(lots, forms, manner):
    """Whether some plain book of this manner makes these forms (None where open) at these cells (bits)."""
    if manner == "row":
        return _stand_in_a_row(lots, forms)
    left, _ = shrink(lots, forms)
    return len(set(list(left.values()))) == len(left)


def _stand_in_a_row(lots, forms):
    """Whether reaches go round no ring."""
    shared = common_bits(lots, forms)
    left = list(shared)
    while left:
        told = [(lot, form) for lot, form in zip(lots, forms) if form in left]
        stuck = [form for form in left if _reaches_one(form, shared[form], told)]
        if len(stuck) == len(left):
            return False
        left = stuck
    return True


def _reaches_one(form, marks, told):
    for lot, other in told:
        if not marks & ~lot and other != form:
            return True
    return False


def is_made(table, manner):
    """Whether some plain book of this manner makes the table."""
    need_manner(manner)
    return made_so(cell_bits(table.family), table.forms, manner)


def may_speak(table, cell, manner):
    """The forms with which in this open cell the table is still made."""
    if not is_place(table.forms, cell) or table.forms[cell] is not None:
        raise NoCell()
    need_manner(manner)
    return tuple([form for form in spoken(table) if is_made(filled(table, cell, form), manner)])


def _limit_ways(names, cells):
    """Refuses more than so many ways to put one of the names into each of the cells."""
    many = 1
    for _ in cells:
        many *= len(names)
    if many > MOST_WAYS:
        raise TooMany(MOST_WAYS)


def _ways(lots, forms, names, manner):
    """The ascending list of the tuples of forms, with one of the names in each open cell, that are made."""
    found = [forms] if made_so(lots, forms, manner) else []
    for cell, form in enumerate(forms):
        if form is not None:
            continue
        further = [(*way[:cell], name, *way[cell + 1:]) for way in found for name in names]
        # What is made is made with any cell open, too, so nothing is lost here.
        found = [way for way in further if made_so(lots, way, manner)]
    return found


def ways_of(table, manner):
    """The ascending list of all ways to fill the table such that it is made."""
    names = spoken(table)
    _limit_ways(names, open_cells(table))
    return _ways(cell_bits(table.family), table.forms, names, manner)


def count_filled(table, manner):
    """How many ways there are to fill the table with its forms such that it is made."""
    need_manner(manner)
    return len(ways_of(table, manner))


def all_filled(table, manner):
    """The ascending list of the forms of all cells in the ways of count_filled."""
    need_manner(manner)
    found = ways_of(table, manner)
    if len(found) > MOST_LISTED:
        raise TooMany(MOST_LISTED)
    return found


def how_often(flags):
    """The word for what holds where these flags, one for each way, tell so."""
    if not flags:
        return "barred"
    if all(flags):
        return "always"
    return "some" if any(flags) else "never"


def alike_ever(table, manner, first, second):
    """Whether two cells have one form always, never or in some of the ways."""
    need_manner(manner)
    if not is_place(table.forms, first) or not is_place(table.forms, second):
        raise NoCell()
    return how_often([way[first] == way[second] for way in ways_of(table, manner)])


def asked_next(table, manner):
    """The open cell whose form, whatever it is, leaves fewest ways, or None."""
    need_manner(manner)
    found = ways_of(table, manner)
    cells = open_cells(table)
    if not found or not cells:
        return None
    return min(cells, key=lambda cell: _most_left(found, cell))


def _most_left(found, cell):
    left = {}
    for way in found:
        left[way[cell]] = left.get(way[cell], 0) + 1
    return max(list(left.values()))


def settling(table, manner):
    """The least of the smallest tuples of cells whose forms no other made table of these forms has."""
    need_manner(manner)
    if None in table.forms or not is_made(table, manner):
        raise NotMade()
    cells = list(range(len(table.forms)))
    names = spoken(table)
    _limit_ways(names, cells)
    others = _ways(cell_bits(table.family), (None,) * len(cells), names, manner)
    unlike = _smallest([_unlike_bits(table.forms, way) for way in others if way != table.forms])
    for many in range(len(cells)):
        for chosen in combinations(cells, many):
            if _meets_all(bits(chosen), unlike):
                return chosen
    return tuple(cells)


def _unlike_bits(one, other):
    """The cells, as bits, at which two tuples of forms are unlike."""
    return bits([cell for cell, (here, there) in enumerate(zip(one, other)) if here != there])


def _smallest(lots):
    """Those of the lots of bits that hold no other one."""
    kept = []
    for lot in sorted(lots, key=lambda spot: len(marks_of(spot))):
        if all([inner & ~lot for inner in kept]):
            kept.append(lot)
    return kept


def _meets_all(lot, others):
    for other in others:
        if not lot & other:
            return False
    return True
