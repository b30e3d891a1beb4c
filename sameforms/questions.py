"""Questions for the forms of open cells, asked one behind another."""

from sameforms.errors import TooMany
from sameforms.kinds import is_integer
from sameforms.opens import need_manner, ways_of
from sameforms.tables import open_cells

MOST_OPEN = 6


def _few_ways(table, manner):
    """The ways to fill the table, whose open cells must not be too many."""
    need_manner(manner)
    if len(open_cells(table)) > MOST_OPEN:
        raise TooMany(MOST_OPEN)
    return ways_of(table, manner)


def _by_form(ways, cell):
    """The dict from the forms that the cell has in these ways to the lists of the ways."""
    groups = {}
    for way in ways:
        groups.setdefault(way[cell], []).append(way)
    return groups


def _least(ways, cells, answers, kept):
    """The pair of the least number of questions for these ways and a tree of so many.

    The answers so far, None where none is, tell the ways, so what was found is kept by them.
    """
    if len(ways) == 1:
        return 0, ("told", ways[0])
    if answers not in kept:
        kept[answers] = _best_asked(ways, cells, answers, kept)
    return kept[answers]


def _best_asked(ways, cells, answers, kept):
    """As _least, of several ways."""
    # A cell that was asked for has one form left, too, and asking for such a cell tells nothing.
    asked = [(place, cell, _by_form(ways, cell)) for place, cell in enumerate(cells)]
    asked = [(place, cell, groups) for place, cell, groups in asked if len(groups) > 1]
    least = _least_thinkable(len(ways), max([len(groups) for _, _, groups in asked]))
    best = None
    for place, cell, groups in asked:
        number = 0
        trees = {}
        for form, group in groups.items():
            behind, trees[form] = _least(group, cells, (*answers[:place], form, *answers[place + 1:]), kept)
            number = max(number, behind + 1)
            if best is not None and number >= best[0]:
                break
        if best is None or number < best[0]:
            best = (number, ("ask", cell, trees))
        if best[0] == least:
            break
    return best


def _least_thinkable(ways, forms):
    """How many questions so many ways need at least, where each has at most so many answers."""
    number = 0
    told = 1
    while told < ways:
        told *= forms
        number += 1
    return number


def _planned(table, manner):
    """The pair of the least number of questions and a tree, None if there is no way."""
    ways = _few_ways(table, manner)
    cells = open_cells(table)
    return _least(ways, cells, (None,) * len(cells), {}) if ways else None


def questions(table, manner):
    """The least number of questions that are enough, None if there is no way."""
    plan = _planned(table, manner)
    return None if plan is None else plan[0]


def question_tree(table, manner):
    """A tree with which so many questions are enough, None if there is no way."""
    plan = _planned(table, manner)
    return None if plan is None else plan[1]


def is_question_tree(table, manner, thing):
    """Whether the thing is a tree, of any depth, for the table."""
    ways = _few_ways(table, manner)
    return bool(ways) and _is_tree(ways, open_cells(table), thing)


def _is_tree(ways, cells, thing):
    """Whether the thing is a tree for these ways, where these cells may be asked for."""
    if not isinstance(thing, tuple) or not thing or not isinstance(thing[0], str):
        return False
    if thing[0] == "told":
        return len(thing) == 2 and len(ways) == 1 and thing[1] == ways[0]
    if thing[0] != "ask" or len(thing) != 3:
        return False
    _, cell, trees = thing
    if not is_integer(cell) or cell not in cells or not isinstance(trees, dict):
        return False
    groups = _by_form(ways, cell)
    if len(trees) != len(groups):
        return False
    left = [other for other in cells if other != cell]
    for form, group in groups.items():
        if form not in trees or not _is_tree(group, left, trees[form]):
            return False
    return True
