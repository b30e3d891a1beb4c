"""What all files ask of integers, cells and forms."""

LONGEST_FORM = 8


def is_integer(thing):
    """Whether the thing is an int and no flag."""
    return isinstance(thing, int) and not isinstance(thing, bool)


def is_between(low, high, thing):
    """Whether the thing is an integer from low to high."""
    return is_integer(thing) and low <= thing <= high


def is_place(rows, thing):
    """Whether the thing is the number of one of the rows."""
    return is_between(0, len(rows) - 1, thing)


def is_cell(many, thing):
    """Whether the thing is an ascending tuple of marks below many."""
    if not isinstance(thing, tuple):
        return False
    lowest = 0
    for mark in thing:
        if not is_between(lowest, many - 1, mark):
            return False
        lowest = mark + 1
    return True


def is_form(thing):
    """Whether the thing is a string of 1 to 8 letters a to z."""
    if not isinstance(thing, str) or not 1 <= len(thing) <= LONGEST_FORM:
        return False
    for letter in thing:
        if not "a" <= letter <= "z":
            return False
    return True


def lies_within(inner, outer):
    """Whether all marks of inner are in outer."""
    for mark in inner:
        if mark not in outer:
            return False
    return True


def all_within(marks):
    """The ascending list of all lots of these ascending marks."""
    lots = [()]
    for mark in marks:
        lots = lots + [(*lot, mark) for lot in lots]
    return sorted(lots)


def all_cells(many):
    """The ascending list of all cells of marks below many."""
    return all_within(tuple(range(many)))


def bits(marks):
    """The marks as the bits of an integer."""
    return sum([1 << mark for mark in marks])


def marks_of(lot):
    """The ascending tuple of the marks whose bits these are."""
    return tuple([mark for mark in range(lot.bit_length()) if lot >> mark & 1])
