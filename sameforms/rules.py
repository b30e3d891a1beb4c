"""Rules ahead of the looking up: strikes and leads."""

from sameforms.books import MARKS
from sameforms.errors import Clash, NoCell, NoRules, TooMany
from sameforms.families import Family
from sameforms.kinds import all_cells, bits, is_cell, lies_within
from sameforms.opens import is_made, made_so, need_manner
from sameforms.tables import Table

MOST_RULES = 20
MOST_CELLS_TO_LEAD = 8


def need_rules(thing):
    """Refuses what are no rules."""
    if not _are_rules(thing):
        raise NoRules()


def _are_rules(thing):
    if not isinstance(thing, (list, tuple)) or len(thing) > MOST_RULES:
        return False
    for rule in thing:
        if not _is_rule(rule):
            return False
    return True


def _is_rule(thing):
    if not isinstance(thing, tuple) or len(thing) != 3:
        return False
    if not isinstance(thing[0], str) or thing[0] not in ("strike", "lead"):
        return False
    return is_cell(MARKS, thing[1]) and is_cell(MARKS, thing[2])


def _behind(rules, cell):
    """What becomes of the cell (its marks) behind right rules."""
    for word, first, second in rules:
        if word == "lead" and cell == first:
            cell = second
        elif word == "strike" and lies_within(first, cell):
            cell = tuple([mark for mark in cell if mark not in second])
    return cell


def changed(rules, cell):
    """What becomes of the cell behind the rules."""
    need_rules(rules)
    if not is_cell(MARKS, cell):
        raise NoCell()
    return _behind(rules, cell)


def alike_behind(family, rules):
    """The ascending list of the tuples of cells that become one."""
    need_rules(rules)
    lots = {}
    for number, cell in enumerate(family.cells):
        lots.setdefault(_behind(rules, cell), []).append(number)
    return sorted([tuple(lot) for lot in lots.values()])


def moved(table, rules):
    """The table of what the cells become."""
    need_rules(rules)
    goals = [_behind(rules, cell) for cell in table.family.cells]
    clash = _first_clash(goals, table.forms)
    if clash is not None:
        raise Clash(clash[0], clash[1])
    forms = _forms_at(goals, table.forms)
    cells = tuple(sorted(forms))
    return Table(Family(MARKS, cells), tuple([forms[cell] for cell in cells]))


def _first_clash(goals, forms):
    """The least pair of told cells of unlike forms that become one, or None."""
    for first, form in enumerate(forms):
        for second in range(first + 1, len(forms)):
            if goals[first] == goals[second] and None not in (form, forms[second]) and form != forms[second]:
                return first, second
    return None


def _forms_at(goals, forms):
    """The dict from all goals to their forms, None where all are open."""
    found = {}
    for goal, form in zip(goals, forms):
        if found.get(goal) is None:
            found[goal] = form
    return found


def _made_behind(table, rules, manner):
    """Whether the table moved by right rules is made, without a clash."""
    goals = [_behind(rules, cell) for cell in table.family.cells]
    if _first_clash(goals, table.forms) is not None:
        return False
    forms = _forms_at(goals, table.forms)
    return made_so([bits(goal) for goal in forms], list(forms.values()), manner)


def one_strike(table, manner):
    """The least pair of a strike behind which the table is made, (None, None) if it is made, or None."""
    if is_made(table, manner):
        return None, None
    lots = all_cells(table.family.many)
    for where in lots:
        for marks in lots:
            if marks and _made_behind(table, [("strike", where, marks)], manner):
                return where, marks
    return None


def few_leads(table, manner):
    """As few leads between cells as can be behind which the table is made, None if two are too few."""
    need_manner(manner)
    cells = table.family.cells
    if len(cells) > MOST_CELLS_TO_LEAD:
        raise TooMany(MOST_CELLS_TO_LEAD)
    leads = [("lead", cell, goal) for cell in cells for goal in cells if cell != goal]
    alone = [[lead] for lead in leads]
    for rules in [[], *alone]:
        if _made_behind(table, rules, manner):
            return rules
    for first in leads:
        for second in leads:
            if _made_behind(table, [first, second], manner):
                return [first, second]
    return None
