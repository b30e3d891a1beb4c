"""The examples of the document, one behind another."""

import unittest

from sameforms.books import Book, speaker
from sameforms.chains import one_chain
from sameforms.chance import fewest_entries, parted
from sameforms.counting import count_patterns
from sameforms.families import line, whole
from sameforms.holding import is_shrunk_bar, shrunk
from sameforms.ladders import ladder
from sameforms.opens import may_speak
from sameforms.orders import count_orders, order_at
from sameforms.rows import is_ring, reaches, ring
from sameforms.rules import changed
from sameforms.tables import Table, common, sames
from sameforms.texts import table_text
from sameforms.weights import is_mixture


class Examples(unittest.TestCase):

    def setUp(self):
        self.f = whole(2)
        self.t = Table(self.f, ("r", "p", "p", "q"))
        self.g = line(2)
        self.v = Table(self.g, ("a", "b", "a"))

    def test_e01_to_e04(self):
        self.assertEqual(self.f.cells, ((), (0,), (0, 1), (1,)))
        self.assertEqual(self.g.cells, ((), (0,), (0, 1)))
        self.assertEqual(common(self.t, "p"), (0,))
        self.assertEqual(sames(self.t), [(0,), (1, 2), (3,)])
        self.assertEqual(speaker(Book("within", (((), "r"), ((0,), "p"), ((1,), "q")), None), (0, 1)), ("quarrel", (1, 2)))
        self.assertEqual(reaches(self.t), {("q", "p"): 2, ("r", "p"): 1, ("r", "q"): 3})

    def test_e05_to_e08(self):
        self.assertIsNone(ring(self.t))
        self.assertIs(is_ring(self.v, (("a", 1), ("b", 2))), True)
        self.assertEqual(count_orders(self.t), 1)
        self.assertEqual(order_at(self.t, 0), ("p", "q", "r"))
        self.assertEqual(shrunk(self.t), {"p": (0,), "q": (), "r": ()})
        self.assertIs(is_shrunk_bar(self.t, ([("q", "p", 2)], "q", "r")), True)
        self.assertEqual(ladder(self.t), ("row", "weights"))

    def test_e09_to_e12(self):
        self.assertIs(is_mixture(self.v, {"a": (), "b": (0,)}, [(2, "b", 1)]), True)
        self.assertEqual(may_speak(Table(self.g, ("a", "b", None)), 2, "row"), ("b",))
        self.assertEqual(fewest_entries(self.v, "row")[0], 3)
        self.assertEqual(parted(self.v, "row"), ((0,), (1,), (2,)))
        self.assertEqual(changed([("strike", (1,), (0, 1))], (0, 1)), ())

    def test_e13_to_e15(self):
        self.assertEqual(count_patterns(self.f, "row"), 9)
        self.assertEqual(count_patterns(self.f, "within"), 7)
        self.assertEqual(one_chain([("a", "b", "a")]), (0, 2, 1))
        self.assertEqual(table_text(self.v), "marks 2\ncell - a\ncell 0 b\ncell 0,1 a\n")


if __name__ == "__main__":
    unittest.main()
