"""2.3: parts of tables, and tables put together."""

import unittest

from sameforms.families import Family, line, whole
from sameforms.parts import merged, part, spread
from sameforms.tables import Table
from samples import Checked, nested, strange_things

SQUARE = whole(2)
RPPQ = Table(SQUARE, ("r", "p", "p", "q"))


class Part(Checked):

    def test_part(self):
        self.assertEqual(part(RPPQ, (0, 3)), Table(Family(2, ((), (1,))), ("r", "q")))
        self.assertEqual(part(RPPQ, (2,)), Table(Family(2, ((0, 1),)), ("p",)))
        self.assertEqual(part(RPPQ, (0, 1, 2, 3)), RPPQ)
        table = Table(Family(3, ((2,), (), (0, 1))), (None, "a", "b"))
        self.assertEqual(part(table, (0, 2)), Table(Family(3, ((2,), (0, 1))), (None, "b")))
        self.assertEqual(part(table, (0,)), Table(Family(3, ((2,),)), (None,)))
        self.assertEqual(table, Table(Family(3, ((2,), (), (0, 1))), (None, "a", "b")))

    def test_no_cell(self):
        wrong = [(), (4,), (0, 4), (1, 0), (1, 1), (-1,), (-1, 0), [0], [0, 1], 0, "0", ("0",), (None,), (True,), (False, 1), (0, True),
                 ((0,),), (0, (1,)), None, range(2), {0: 1}, nested(40, tuple), (RPPQ,)]
        for cells in wrong + [thing for thing in strange_things() if thing != (0,)]:
            self.fails("NoCell", {}, part, RPPQ, cells)


class Spread(Checked):

    def test_spread(self):
        self.assertEqual(spread(RPPQ, line(2)), Table(line(2), ("r", "p", "p")))
        self.assertEqual(spread(RPPQ, whole(3)), Table(whole(3), ("r", "p", "p", None, None, "q", None, None)))
        self.assertEqual(spread(RPPQ, Family(3, ((2,), (0, 2)))), Table(Family(3, ((2,), (0, 2))), (None, None)))
        self.assertEqual(spread(RPPQ, Family(5, ((1,), (4,), ()))), Table(Family(5, ((1,), (4,), ())), ("q", None, "r")))
        self.assertEqual(spread(RPPQ, SQUARE), RPPQ)
        self.assertEqual(spread(Table(SQUARE, ("a", None, None, "b")), line(2)), Table(line(2), ("a", None, None)))
        self.assertEqual(RPPQ, Table(whole(2), ("r", "p", "p", "q")))


class Merged(Checked):

    def test_merged(self):
        one, other = Table(SQUARE, ("a", None, None, "b")), Table(SQUARE, ("a", "c", None, None))
        self.assertEqual(merged(one, other), Table(SQUARE, ("a", "c", None, "b")))
        self.assertEqual(merged(other, one), Table(SQUARE, ("a", "c", None, "b")))
        self.assertEqual(merged(RPPQ, RPPQ), RPPQ)
        self.assertEqual((one.forms, other.forms), (("a", None, None, "b"), ("a", "c", None, None)))

    def test_other_family(self):
        forms = ("a", None, None, "b")
        for family in [Family(3, SQUARE.cells), Family(2, SQUARE.cells[::-1]), Family(3, ((), (0,), (1,), (2,)))]:
            self.fails("OtherFamily", {}, merged, Table(SQUARE, forms), Table(family, forms))
        self.fails("OtherFamily", {}, merged, RPPQ, Table(line(2), ("x", "y", "z")))

    def test_unlike(self):
        self.fails("Unlike", {"cell": 0}, merged, RPPQ, Table(SQUARE, ("q", "p", "p", "r")))
        self.fails("Unlike", {"cell": 2}, merged, RPPQ, Table(SQUARE, ("r", None, "q", "r")))
        self.fails("Unlike", {"cell": 3}, merged, Table(SQUARE, ("r", None, "q", "r")), Table(SQUARE, (None, "p", None, "q")))

    def test_too_many(self):
        family = Family(4, whole(4).cells)
        one = Table(family, tuple("abcdefgh") + (None,) * 8)
        four, five = (None,) * 8 + tuple("ijkl") + ("a",) * 4, (None,) * 8 + tuple("ijklm") + ("a",) * 3
        self.assertEqual(merged(one, Table(family, four)).forms, tuple("abcdefghijkl") + ("a",) * 4)
        self.fails("TooMany", {"most": 12}, merged, one, Table(family, five))
        self.fails("Unlike", {"cell": 7}, merged, one, Table(family, five[:7] + ("a",) + five[8:]))


if __name__ == "__main__":
    unittest.main()
