"""1.1 to 1.3: families."""

import unittest

from sameforms.families import Family, crossed, line, said, whole, without
from sameforms.tables import Table
from samples import Checked, Dice, nested, strange_things, subsets

CELLS_OF_FIVE = tuple(sorted(subsets((0, 1, 2, 3, 4))))


class Families(Checked):

    def test_keeps_its_parts(self):
        for many, cells in [(0, ((),)), (2, ((0, 1), (), (1,))), (6, ((0, 1, 2, 3, 4, 5),)), (6, ((5,), (0,), ())),
                            (3, ((0, 2), (1,))), (5, CELLS_OF_FIVE[:24]), (6, CELLS_OF_FIVE[23::-1])]:
            family = Family(many, cells)
            self.assertEqual((family.many, family.cells), (many, cells))
            self.assertIs(family.cells.__class__, tuple)
            self.assertEqual(set(vars(family)), {"many", "cells"})

    def test_many_is_wrong(self):
        for many in strange_things() + [7, "2", (2,), [2]]:
            self.fails("BadFamily", {"part": "many"}, Family, many, ((),))

    def test_cells_are_wrong(self):
        for cells in strange_things() + [(), ((), ()), ((0,), (1,), (0,)), CELLS_OF_FIVE[:25], [(), (0,)],
                                          ((0, 1, 2, 3, 4, 5),)]:
            self.fails("BadFamily", {"part": "cells"}, Family, 5, cells)

    def test_a_cell_is_wrong(self):
        wrong = [(1, 0), (0, 0), (2,), (0, 2), (-1,), (-1, 0), [0], 0, "0", "", None, (True,), (False,), (0, True), ("0",),
                 (None,), ((0,),), (nested(38, list),), (nested(38, tuple),), b"", range(1), Family(1, ((),))]
        for cell in wrong:
            self.fails("BadFamily", {"part": "cells"}, Family, 2, (cell,))
            self.fails("BadFamily", {"part": "cells"}, Family, 2, ((1,), (0, 1), cell))

    def test_no_marks(self):
        self.assertEqual(Family(0, ((),)).cells, ((),))
        self.fails("BadFamily", {"part": "cells"}, Family, 0, ((0,),))

    def test_the_first_wrong_part(self):
        self.fails("BadFamily", {"part": "many"}, Family, 7, ())
        self.fails("BadFamily", {"part": "many"}, Family, True, [(0,)])
        self.fails("BadFamily", {"part": "many"}, Family, None, None)

    def test_equal(self):
        family = Family(2, ((), (0,)))
        self.is_flag(True, family == Family(2, ((), (0,))))
        self.is_flag(False, family != Family(2, ((), (0,))))
        self.is_flag(False, family == Family(2, ((0,), ())))
        self.is_flag(False, family == Family(3, ((), (0,))))
        self.is_flag(False, family == Family(2, ((),)))
        for thing in strange_things() + [(2, ((), (0,))), Table(family, (None, None))]:
            self.is_flag(False, family == thing)
            self.is_flag(False, thing == family)


class WholeAndLine(Checked):

    def test_whole(self):
        self.assertEqual(whole(0), Family(0, ((),)))
        self.assertEqual(whole(1), Family(1, ((), (0,))))
        self.assertEqual(whole(2).cells, ((), (0,), (0, 1), (1,)))
        for many in range(5):
            self.assertEqual(whole(many), Family(many, tuple(sorted(subsets(tuple(range(many)))))))

    def test_line(self):
        self.assertEqual(line(0), Family(0, ((),)))
        self.assertEqual(line(2).cells, ((), (0,), (0, 1)))
        self.assertEqual(line(6).cells[6], (0, 1, 2, 3, 4, 5))
        for many in range(7):
            family = line(many)
            self.assertEqual(family.many, many)
            self.assertEqual([len(cell) for cell in family.cells], list(range(many + 1)))
            for cell in family.cells:
                self.assertEqual(cell, tuple(range(len(cell))))

    def test_no_number(self):
        for many in strange_things() + ["2", (2,), [2], 7]:
            self.fails("NoNumber", {}, whole, many)
            self.fails("NoNumber", {}, line, many)
        self.fails("NoNumber", {}, whole, 5)


def keeps(cell, saying):
    kind, marks = saying[0], set(saying[1])
    if kind == "never":
        return not marks <= set(cell)
    if kind == "some":
        return bool(marks & set(cell))
    return not marks <= set(cell) or set(saying[2]) <= set(cell)


class Said(Checked):

    def test_each_kind(self):
        self.assertEqual(said(2, []).cells, ((), (0,), (0, 1), (1,)))
        self.assertEqual(said(2, [("never", (0, 1))]).cells, ((), (0,), (1,)))
        self.assertEqual(said(2, [("never", (0,))]).cells, ((), (1,)))
        self.assertEqual(said(2, [("some", (0, 1))]).cells, ((0,), (0, 1), (1,)))
        self.assertEqual(said(2, [("then", (0,), (1,))]).cells, ((), (0, 1), (1,)))
        self.assertEqual(said(2, [("then", (), (1,))]).cells, ((0, 1), (1,)))
        self.assertEqual(said(3, [("then", (0,), (1, 2))]).cells, ((), (0, 1, 2), (1,), (1, 2), (2,)))
        self.assertEqual(said(2, [("then", (0,), ())]).cells, ((), (0,), (0, 1), (1,)))
        self.assertEqual(said(0, ()), Family(0, ((),)))
        self.assertEqual(said(6, (("then", (), (0, 1, 2, 3, 4)),)).cells, ((0, 1, 2, 3, 4), (0, 1, 2, 3, 4, 5)))

    def test_against_all_cells(self):
        dice = Dice(1)
        for _ in range(300):
            many = dice.below(7)
            lots = [lot for lot in subsets(tuple(range(many))) if len(lot) < 3]
            sayings = []
            for _ in range(dice.below(5)):
                kind = dice.chosen(["never", "some", "then"])
                sayings.append((kind, dice.chosen(lots), dice.chosen(lots))[:3 if kind == "then" else 2])
            cells = tuple(sorted(cell for cell in subsets(tuple(range(many)))
                                 if all(keeps(cell, saying) for saying in sayings)))
            before = list(sayings)
            if not cells:
                self.fails("NoCells", {}, said, many, sayings)
            elif len(cells) > 24:
                self.fails("TooMany", {"most": 24}, said, many, sayings)
            else:
                self.assertEqual(said(many, sayings), Family(many, cells))
                self.assertEqual(said(many, tuple(sayings)), Family(many, cells))
            self.assertEqual(sayings, before)

    def test_no_cells(self):
        for sayings in [[("never", ())], [("some", ())], [("some", (0,)), ("never", (0,))]]:
            self.fails("NoCells", {}, said, 2, sayings)

    def test_twenty_four_and_twenty_five_cells(self):
        self.assertEqual(len(said(5, [("never", (0, 1))]).cells), 24)
        self.fails("TooMany", {"most": 24}, said, 5, [("never", (0, 1, mark)) for mark in (2, 3, 4)])
        self.fails("TooMany", {"most": 24}, said, 5, [])
        self.fails("TooMany", {"most": 24}, said, 6, ())

    def test_twenty_and_twenty_one_sayings(self):
        self.assertEqual(said(1, [("some", (0,))] * 20), Family(1, ((0,),)))
        self.assertEqual(said(1, (("some", (0,)),) * 20), Family(1, ((0,),)))
        self.fails("NoSayings", {}, said, 1, [("some", (0,))] * 21)
        self.fails("NoSayings", {}, said, 1, (("some", (0,)),) * 21)

    def test_no_sayings(self):
        for sayings in strange_things():
            if sayings != []:
                self.fails("NoSayings", {}, said, 2, sayings)

    def test_no_saying(self):
        wrong = [("never",), ("never", (0,), (1,)), ("some", (0,), ()), ("then", (0,)), ("then", (0,), (1,), ()), ("then",), (),
                 ["never", (0,)], ("never", [0]), ("never", 0), ("never", (2,)), ("never", (1, 0)), ("never", (0, 0)),
                 ("never", (True,)), ("then", (0,), (False,)), ("then", (True,), (0,)), ("then", (0,), [1]), ("then", [0], (1,)),
                 ("then", (0,), (2,)), ("then", (2,), (0,)), ("ever", (0,)), (b"never", (0,)), (None, (0,)), ("never", None),
                 ("Never", (0,)), (("never",), (0,)), (["never"], (0,)), (nested(38, list), (0,)), ("some", nested(37, tuple)),
                 ("never", "0"), (Family(1, ((),)), (0,))]
        for saying in wrong + strange_things():
            self.fails("NoSayings", {}, said, 2, [saying])
            self.fails("NoSayings", {}, said, 2, (("never", (0,)), saying))

    def test_the_first_error(self):
        for many in strange_things() + [7]:
            self.fails("NoNumber", {}, said, many, [])
            self.fails("NoNumber", {}, said, many, None)
        self.fails("NoSayings", {}, said, 6, [("never", (6,))])
        self.fails("NoSayings", {}, said, 2, [("never", ()), None])


class Without(Checked):

    def test_without(self):
        family = Family(3, ((0, 1), (), (2,)))
        self.assertEqual(without(family, 0), Family(3, ((), (2,))))
        self.assertEqual(without(family, 1), Family(3, ((0, 1), (2,))))
        self.assertEqual(without(family, 2), Family(3, ((0, 1), ())))
        self.assertEqual(family, Family(3, ((0, 1), (), (2,))))

    def test_no_cell(self):
        family = Family(3, ((0, 1), (), (2,)))
        for cell in strange_things() + [3, "0", (0,)]:
            self.fails("NoCell", {}, without, family, cell)

    def test_the_only_cell(self):
        self.fails("NoCells", {}, without, whole(0), 0)
        for cell in [1, -1, False, None]:
            self.fails("NoCell", {}, without, whole(0), cell)


class Crossed(Checked):

    def test_crossed(self):
        one, other = Family(2, ((1,), (), (0, 1))), Family(3, ((0, 2), ()))
        self.assertEqual(crossed(one, other), Family(5, ((1, 2, 4), (1,), (2, 4), (), (0, 1, 2, 4), (0, 1))))
        self.assertEqual(crossed(whole(0), whole(0)), whole(0))
        self.assertEqual(crossed(whole(0), whole(3)), whole(3))
        self.assertEqual(crossed(whole(3), whole(0)), whole(3))
        self.assertEqual((one.cells, other.cells), (((1,), (), (0, 1)), ((0, 2), ())))

    def test_the_bounds(self):
        self.assertEqual(crossed(line(3), line(3)).many, 6)
        self.assertEqual(len(crossed(line(3), line(3)).cells), 16)
        self.assertEqual(len(crossed(line(5), whole(1)).cells), 12)
        self.assertEqual(len(crossed(whole(3), Family(3, ((), (0,), (1,)))).cells), 24)
        self.fails("TooMany", {"most": 24}, crossed, whole(3), whole(2))
        five = Family(3, ((), (0,), (1,), (2,), (0, 1)))
        self.fails("TooMany", {"most": 24}, crossed, five, five)
        self.fails("TooMany", {"most": 6}, crossed, line(3), line(4))
        self.fails("TooMany", {"most": 6}, crossed, whole(4), whole(3))


if __name__ == "__main__":
    unittest.main()
