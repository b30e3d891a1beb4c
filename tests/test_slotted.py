"""11.1: joinings, slots, and forms that nothing parts."""

import unittest
from itertools import combinations

from sameforms.families import Family, line, whole
from sameforms.slotted import is_slots, never_parted, slots
from sameforms.tables import Table
from samples import (Checked, Dice, forms_of, has_book, large_tables, manners_that_are_none, nested, plainly_made, strange_things, tables_of_books,
                     with_forms)

MAKING = ("row", "within")
SQUARE = whole(2)
RPPQ = Table(SQUARE, ("r", "p", "p", "q"))
ABA = Table(line(2), ("a", "b", "a"))
ONE = Table(SQUARE, ("a",) * 4)
SEVEN = Table(line(6), tuple("abcdefg"))
TURNS = Table(line(6), tuple("abcabca"))


def all_joinings(forms):
    """All joinings of the forms: the first one with any others, then those of the rest."""
    if not forms:
        return [()]
    first, *rest = forms
    found = []
    for many in range(len(rest) + 1):
        for beside in combinations(rest, many):
            left = [form for form in rest if form not in beside]
            found += [((first, *beside), *joining) for joining in all_joinings(left)]
    return sorted(found)


def made_joined(table, joining, manner, is_made=has_book):
    """Whether the table with one form for those of a tuple is made."""
    names = {form: "abcdefghijkl"[number] for number, lot in enumerate(joining) for form in lot}
    return is_made(with_forms(table, [names[form] for form in table.forms]), manner)


def parts(joining, pair):
    return not any(set(pair) <= set(lot) for lot in joining)


def right_slots(table, manner, thing):
    """The words of the document about slots."""
    if thing.__class__ is not list:
        return False
    wanted = all_joinings(forms_of(table)) if len(forms_of(table)) < 7 else None
    for joining in thing:
        if wanted is None:
            if sorted(form for lot in joining for form in lot) != forms_of(table) or list(joining) != sorted(map(tuple, map(sorted, joining))):
                return False
        elif joining.__class__ is not tuple or any(lot.__class__ is not tuple for lot in joining) or joining not in wanted:
            return False
        if not made_joined(table, joining, manner):
            return False
    return all(any(parts(joining, pair) for joining in thing) for pair in combinations(forms_of(table), 2))


def closed_tables(seed, many, names="abcdef", most_cells=8):
    """Drawn tables without open cells, and ones that a plain book makes, of all their forms and with one changed."""
    dice = Dice(seed)
    drawn = []
    for _ in range(many):
        marks = 2 + dice.below(4)
        drawn.append(dice.table(marks, 1 + dice.below(min(2 ** marks, most_cells)), names[:1 + dice.below(len(names))], 6))
    books = [table for manner in MAKING for table in tables_of_books(seed + 1, many, manner, 4, most_cells, names)]
    return [table for table in drawn + books if None not in table.forms]


def tables_and_manners(tables):
    return [(table, manner) for table in tables for manner in MAKING]


class Slots(Checked):

    def check(self, table, manner, made):
        """The slots are right, none of fewer joinings are, and there are none just if some forms are never parted."""
        pairs = list(combinations(forms_of(table), 2))
        apart = [pair for pair in pairs if not any(parts(joining, pair) for joining in made)]
        answer = slots(table, manner)
        self.assertEqual(never_parted(table, manner), apart[0] if apart else None)
        # The sixth fact.
        self.assertEqual(answer is None, bool(apart))
        if answer is None:
            self.is_flag(False, is_slots(table, manner, made))
            return 0
        self.assertTrue(right_slots(table, manner, answer), answer)
        self.is_flag(True, is_slots(table, manner, answer))
        self.is_flag(True, is_slots(table, manner, made))
        for fewer in combinations(made, len(answer) - 1) if answer else []:
            self.assertFalse(all(any(parts(joining, pair) for joining in fewer) for pair in pairs))
        return len(answer)

    def test_by_hand(self):
        self.assertEqual((slots(RPPQ, "row"), never_parted(RPPQ, "row")), ([(("p",), ("q",), ("r",))], None))
        # By holding q and r are shrunk alike; with these joined the table is made, and p is told from both.
        self.assertEqual((slots(RPPQ, "within"), never_parted(RPPQ, "within")), (None, ("q", "r")))
        self.is_flag(False, is_slots(RPPQ, "within", [(("p",), ("q", "r"))]))
        for manner in MAKING:
            self.assertEqual((slots(ABA, manner), never_parted(ABA, manner)), (None, ("a", "b")))
            # a and b never part, nor b and c; ("a", "b") is the least pair.
            self.assertEqual((slots(TURNS, manner), never_parted(TURNS, manner)), (None, ("a", "b")))
            late = Table(line(3), ("z", "b", "a", "b"))
            self.assertEqual((slots(late, manner), never_parted(late, manner)), (None, ("a", "b")))

    def test_one_form(self):
        for manner in MAKING:
            for table in (ONE, Table(whole(0), ("x",)), Table(line(6), ("word",) * 7)):
                self.assertEqual((slots(table, manner), never_parted(table, manner)), ([], None))
                self.is_flag(True, is_slots(table, manner, []))
                self.is_flag(True, is_slots(table, manner, [((table.forms[0],),)] * 3))

    def test_against_all_joinings(self):
        numbers = {}
        for table, manner in tables_and_manners(closed_tables(200, 90)):
            if len(forms_of(table)) > 5:
                continue
            made = [joining for joining in all_joinings(forms_of(table)) if made_joined(table, joining, manner)]
            many = self.check(table, manner, made)
            numbers[(len(forms_of(table)), many)] = numbers.get((len(forms_of(table)), many), 0) + 1
        # 0 stands for None, too; one joining has always been enough, which the search for fewer and other ones shows.
        self.assertEqual({(1, 0)} | {(forms, many) for forms in (2, 3, 4, 5) for many in (0, 1)}, set(numbers))

    def test_against_all_books(self):
        for table, manner in tables_and_manners(closed_tables(202, 30, "abc", 5)):
            if table.family.many <= 3 and len(forms_of(table)) <= 3:
                made = [joining for joining in all_joinings(forms_of(table)) if made_joined(table, joining, manner, plainly_made)]
                self.check(table, manner, made)

    def test_six_forms(self):
        numbers = set()
        dice = Dice(204)
        tables = [table for table in closed_tables(205, 150, "abcdef", 10) if len(forms_of(table)) == 6]
        tables += [Table(family, tuple(dice.some("abcdef", 6))) for family in [line(5), *[dice.family(4, 6) for _ in range(20)]]]
        joinings = all_joinings(list("abcdef"))
        self.assertEqual(len(joinings), 203)
        for table, manner in tables_and_manners(tables):
            made = [joining for joining in joinings if made_joined(table, joining, manner)]
            numbers.add(self.check(table, manner, made))
        self.assertEqual({0, 1}, numbers)

    def test_the_least_pair(self):
        # Which forms are never parted depends on the manner, and the pair need not be of the first forms.
        found = set()
        dice = Dice(206)
        for _ in range(200):
            table = dice.table(3, 4 + dice.below(5), "abcde", 6)
            made = {manner: [joining for joining in all_joinings(forms_of(table)) if made_joined(table, joining, manner)] for manner in MAKING}
            pairs = {}
            for manner in MAKING:
                apart = [pair for pair in combinations(forms_of(table), 2) if not any(parts(joining, pair) for joining in made[manner])]
                pairs[manner] = apart[0] if apart else None
                self.assertEqual(never_parted(table, manner), pairs[manner])
            found.add((pairs["row"], pairs["within"]))
        self.assertGreater(len({row for row, _ in found}), 5)
        self.assertTrue([row for row, within in found if within and row and row != within])
        self.assertTrue([row for row, within in found if within and row is None])

    def test_larger_tables(self):
        many = 0
        for table, manner in tables_and_manners(large_tables(207, 40)):
            if None in table.forms or len(forms_of(table)) > 6:
                continue
            many += 1
            answer = slots(table, manner)
            self.assertEqual(answer is None, never_parted(table, manner) is not None)
            if answer is not None:
                self.assertTrue(right_slots(table, manner, answer))
                self.assertEqual(len(answer), min(1, len(forms_of(table)) - 1))
                self.assertTrue(has_book(table, manner))
        self.assertGreater(many, 20)

    def test_a_new_list_each_time(self):
        for table in (RPPQ, ONE):
            kept = slots(table, "row")
            slots(table, "row").append(())
            self.assertEqual(slots(table, "row"), kept)
        self.assertEqual((RPPQ.forms, ONE.forms), (("r", "p", "p", "q"), ("a",) * 4))


class IsSlots(Checked):

    def test_one_part_changed(self):
        answers = {True: 0, False: 0}
        for table, manner in tables_and_manners([RPPQ, ONE, ABA] + closed_tables(210, 25, "abcd")):
            forms = forms_of(table)
            right = slots(table, manner) or [tuple((form,) for form in forms)]
            for thing in changed_slots(right, forms):
                wanted = right_slots(table, manner, thing)
                self.is_flag(wanted, is_slots(table, manner, thing))
                answers[wanted] += 1
        self.assertGreater(answers[True], 50)
        self.assertGreater(answers[False], 1000)

    def test_by_hand(self):
        # In a line each joining of neighbours is made; none has a and c without b.
        table = Table(line(2), ("a", "b", "c"))
        ab, bc, one, apart = (("a", "b"), ("c",)), (("a",), ("b", "c")), (("a", "b", "c"),), (("a",), ("b",), ("c",))
        for manner in MAKING:
            for thing in ([ab, bc], [bc, ab], [ab, bc, one], [one, ab, ab, bc, bc], [apart], [ab, apart]):
                self.is_flag(True, is_slots(table, manner, thing))
            for thing in ([ab], [bc], [one], [], [ab, bc, (("a", "c"), ("b",))], (ab, bc), {0: ab, 1: bc},
                          [list(ab), bc], [(["a", "b"], ("c",)), bc], [(("b", "a"), ("c",)), bc], [(("c",), ("a", "b")), bc],
                          [(("a", "b"), ("c",), ()), bc], [((), ("a", "b"), ("c",)), bc], [(("a",), ("c",)), bc, ab], [(("a", "a", "b"), ("c",)), bc],
                          [(("a", "b"), ("b", "c")), bc], [(("a", "b"), ("c", "d")), bc], ["ab", bc], [("ab", "c"), bc], [(("a", "b"), "c"), bc],
                          [(("a", "b"), ("c", None)), bc], [ab, bc, ()], [ab, bc, None], [ab, bc, table], [ab, bc, ((),)]):
                self.is_flag(False, is_slots(table, manner, thing))
        self.is_flag(True, is_slots(RPPQ, "row", [(("p",), ("q",), ("r",))]))
        self.is_flag(False, is_slots(RPPQ, "within", [(("p",), ("q",), ("r",))]))

    def test_more_than_six_forms(self):
        seven = [tuple((form,) for form in "abcdefg")]
        twelve = Table(Family(6, line(6).cells + ((1,), (2,), (3,), (4,), (5,))), tuple("abcdefghijkl"))
        for manner in MAKING:
            self.is_flag(True, is_slots(SEVEN, manner, seven))
            self.is_flag(False, is_slots(SEVEN, manner, []))
            halves = [(tuple("abc"), tuple("defg")), (("a",), tuple("bcdefg")), (tuple("ab"), tuple("cdefg")), (tuple("abcd"), tuple("efg")),
                      (tuple("abcde"), tuple("fg")), (tuple("abcdef"), ("g",))]
            self.is_flag(True, is_slots(SEVEN, manner, halves))
            self.is_flag(False, is_slots(SEVEN, manner, halves[1:]))
            self.is_flag(False, is_slots(SEVEN, manner, [*halves, (tuple("ac"), tuple("bdefg"))]))
            self.is_flag(True, is_slots(twelve, manner, [tuple((form,) for form in "abcdefghijkl")]))

    def test_things_of_any_kind(self):
        things = strange_things() + [[thing] for thing in strange_things()] + [[(thing,)] for thing in strange_things() if thing != "a"]
        things += [[((thing,), ("b",))] for thing in strange_things()] + [nested(39, list), [nested(38, tuple)], [(nested(37, list),)]]
        table = Table(line(1), ("a", "b"))
        for manner in MAKING:
            self.is_flag(True, is_slots(table, manner, [(("a",), ("b",))] * 1999))
            for thing in things:
                self.is_flag(False, is_slots(table, manner, thing))

    def test_things_stay_as_they_were(self):
        thing = [(("p", "q"), ("r",)), (("p",), ("q",), ("r",))]
        is_slots(RPPQ, "row", thing)
        self.assertEqual(thing, [(("p", "q"), ("r",)), (("p",), ("q",), ("r",))])


def changed_slots(right, forms):
    """Right slots, and such with one part changed."""
    things = [right, right[::-1], right + right, right + [(tuple(forms),)], right[1:], tuple(right), [*right, ()], [*right, None], {0: right}]
    for place, joining in enumerate(right):
        rest = right[:place] + right[place + 1:]
        others = [list(joining), (*joining, ()), ((), *joining), joining[::-1], joining[1:], (*joining, joining[0]), (*joining, "a"),
                  tuple(form for lot in joining for form in lot), (tuple(form for lot in joining for form in lot),),
                  (tuple(sorted(form for lot in joining for form in lot)),), tuple("".join(lot) for lot in joining)]
        for at, lot in enumerate(joining):
            for change in (list(lot), lot[1:], lot[::-1], (*lot, lot[0]), (*lot, "zz"), (*lot, None), (*lot, 0), lot[0], {lot[0]: 1}, (lot,)):
                others.append((*joining[:at], change, *joining[at + 1:]))
        things += [[*rest, other] for other in others]
        things += [[*rest, other] for other in all_joinings(forms)]
    return things


class Errors(Checked):

    def test_no_manner(self):
        for manner in manners_that_are_none():
            for table in (RPPQ, ONE, SEVEN, Table(SQUARE, (None,) * 4)):
                self.fails("NoManner", {}, slots, table, manner)
                self.fails("NoManner", {}, never_parted, table, manner)
                self.fails("NoManner", {}, is_slots, table, manner, None)

    def test_the_first_open_cell(self):
        eight = Table(whole(3), (*"abc", None, *"def", None))
        tables = [(Table(SQUARE, ("a", None, "b", None)), 1), (Table(SQUARE, (None,) * 4), 0), (Table(SQUARE, ("a", "a", "a", None)), 3), (eight, 3),
                  (Table(Family(3, whole(3).cells), (*"abcdefg", None)), 7)]
        for table, cell in tables:
            for manner in MAKING:
                self.fails("OpenCell", {"cell": cell}, slots, table, manner)
                self.fails("OpenCell", {"cell": cell}, never_parted, table, manner)
                self.fails("OpenCell", {"cell": cell}, is_slots, table, manner, [])
                self.fails("OpenCell", {"cell": cell}, is_slots, table, manner, None)

    def test_six_and_seven_forms(self):
        six = Table(line(6), tuple("abcdeff"))
        for manner in MAKING:
            for table in (SEVEN, Table(whole(3), tuple("abcdefgh")), Table(whole(3), tuple("gabacdef"))):
                self.fails("TooMany", {"most": 6}, slots, table, manner)
                self.fails("TooMany", {"most": 6}, never_parted, table, manner)
            self.assertEqual(slots(six, manner), [tuple((form,) for form in "abcdef")])
            self.assertIsNone(never_parted(six, manner))


if __name__ == "__main__":
    unittest.main()
