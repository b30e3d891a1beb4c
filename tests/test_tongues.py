"""13.1 and 13.2: tongues that change, go back and are tried, and single changes."""

import unittest

from sameforms.books import Book, idle, made, quarrels
from sameforms.families import Family, line, whole
from sameforms.tables import Table, sames
from sameforms.tongues import Tongue, one_change
from samples import MANNERS, Checked, Dice, book_of, form_spoken, nested, no_places, strange_things, subsets

SQUARE = whole(2)
RPQ = Book("row", (((0,), "p"), ((1,), "q"), ((), "r")), None)
LARGE = Family(6, tuple(subsets(tuple(range(6)))[:24]))
THIRTEEN = Book("row", tuple((LARGE.cells[number], "abcdefghijklm"[number]) for number in range(12, -1, -1)), None)
ENTRIES_THAT_ARE_NONE = [None, (), ((0,),), ((0,), "a", "b"), [(0,), "a"], ([0], "a"), ((0,), "A"), ((0,), ""), ((0,), None), ((0,), "abcdefghi"), ((1, 0), "a"),
                         ((0, 0), "a"), ((6,), "a"), ((-1,), "a"), ((True,), "a"), ("a", (0,)), (0, "a"), "ab", {(0,): "a"}, ((0,), b"a"),
                         (nested(38, tuple), "a"), ((0,), nested(38, list)), (((0,), "a"),), ((10 ** 39,), "a")]


class Model:
    """A tongue word for word: lists of what stood, whole each time."""

    def __init__(self, family, book):
        self.stood = [(family, book)]

    def standing(self):
        return self.stood[-1]

    def lose(self, number):
        family, book = self.stood[-1]
        entries = [entry for place, entry in enumerate(book.entries) if place != number]
        self.stood.append((family, Book(book.manner, tuple(entries), book.weights)))

    def win(self, number, entry):
        family, book = self.stood[-1]
        entries = list(book.entries)
        entries.insert(number, entry)
        self.stood.append((family, Book(book.manner, tuple(entries), book.weights)))

    def drop(self, mark):
        family, book = self.stood[-1]
        cells = sorted({tuple(sorted(set(cell) - {mark})) for cell in family.cells})
        entries = tuple((tuple(sorted(set(marks) - {mark})), form) for marks, form in book.entries)
        self.stood.append((Family(family.many, tuple(cells)), Book(book.manner, entries, book.weights)))

    def forms(self):
        family, book = self.stood[-1]
        return [form_spoken(book, cell) for cell in family.cells]

    def copy(self):
        other = Model(None, None)
        other.stood = list(self.stood)
        return other

    def unlike(self, name, *arguments):
        """The cells whose forms are unlike behind this change, done and looked at."""
        behind = self.copy()
        getattr(behind, name)(*arguments)
        return tuple(cell for cell, (here, there) in enumerate(zip(self.forms(), behind.forms())) if here != there)


def some_entry(dice):
    return dice.chosen(subsets((0, 1, 2, 3, 4, 5))[:42]), dice.chosen("abcdefgh")


def drawn_tongue(dice, manner, entries=6, names="abcdefgh"):
    marks = 1 + dice.below(5)
    family = dice.family(marks, 1 + dice.below(min(2 ** marks, 12)))
    return family, book_of(dice, manner, dice.below(entries + 1), marks, names)


class Changing(Checked):

    def stands(self, tongue, model):
        """All that the tongue tells is as the model has it."""
        family, book = model.standing()
        standing = tongue.standing()
        self.assertEqual((standing.__class__, standing), (tuple, (family, book)))
        self.assertEqual(tongue.table(), Table(family, tuple(model.forms())))
        self.assertEqual(tongue.sames(), sames(made(book, family)))
        self.assertEqual(tongue.quarrels(), quarrels(book, family))
        self.assertEqual(tongue.idle(), idle(book, family))
        self.assertEqual(tongue.changes(), len(model.stood) - 1)

    def step(self, dice, tongue, model):
        """A drawn step, done by both."""
        family, book = model.standing()
        many = len(book.entries)
        step = dice.below(6)
        if step == 0 and many:
            number = dice.below(many)
            self.assertEqual(tongue.if_lost(number), model.unlike("lose", number))
            self.assertIsNone(tongue.lose(number))
            model.lose(number)
        elif step == 1 or step == 0:
            number, entry = dice.below(many + 1), some_entry(dice)
            self.assertEqual(tongue.if_won(number, entry), model.unlike("win", number, entry))
            self.assertIsNone(tongue.win(number, entry))
            model.win(number, entry)
        elif step == 2 and dice.below(2):
            mark = dice.below(family.many)
            self.assertIsNone(tongue.drop(mark))
            model.drop(mark)
        elif step == 3 and len(model.stood) > 1:
            self.assertIsNone(tongue.back())
            model.stood.pop()
        elif step == 4:
            for call in ((tongue.lose, many), (tongue.if_lost, many), (tongue.win, many + 1, some_entry(dice)), (tongue.if_won, -1, some_entry(dice))):
                self.fails("NoEntry", {}, *call)
            self.fails("NoMark", {}, tongue.drop, family.many)

    def test_long_rows(self):
        dice = Dice(260)
        for round in range(48):
            family, book = drawn_tongue(dice, MANNERS[round % 4])
            pairs = [(Tongue(family, book), Model(family, book))]
            for _ in range(25):
                tongue, model = dice.chosen(pairs)
                self.step(dice, tongue, model)
                if dice.below(8) == 0:
                    pairs.append((tongue.copy(), model.copy()))
                if dice.below(6) == 0:
                    self.assertEqual(tongue.trying(lambda tried, model=model: self.wander(dice, tried, model)), "told")
                for pair in pairs:
                    self.stands(*pair)

    def wander(self, dice, tongue, model):
        """An action that goes on with the tongue, perhaps back behind where it began, perhaps into another trying."""
        model = model.copy()
        self.stands(tongue, model)
        for _ in range(dice.below(5)):
            self.step(dice, tongue, model)
        for _ in range(dice.below(3)):
            if len(model.stood) > 1:
                tongue.back()
                model.stood.pop()
        if dice.below(2):
            tongue.trying(lambda tried: self.wander(dice, tried, model))
        self.stands(tongue, model)
        return "told"

    def test_by_hand(self):
        tongue = Tongue(SQUARE, RPQ)
        self.assertEqual(tongue.standing(), (SQUARE, RPQ))
        self.assertEqual((tongue.table(), tongue.sames()), (Table(SQUARE, ("r", "p", "p", "q")), [(0,), (1, 2), (3,)]))
        self.assertEqual((tongue.quarrels(), tongue.idle(), tongue.changes()), ((), (), 0))
        self.assertEqual([tongue.if_lost(number) for number in range(3)], [(1, 2), (3,), (0,)])
        self.assertEqual([tongue.if_won(number, ((), "x")) for number in range(4)], [(0, 1, 2, 3), (0, 3), (0,), ()])
        tongue.lose(0)
        self.assertEqual(tongue.table().forms, ("r", "r", "q", "q"))
        tongue.win(2, ((0, 1), "x"))
        self.assertEqual((tongue.standing()[1].entries, tongue.idle()), ((((1,), "q"), ((), "r"), ((0, 1), "x")), (2,)))
        tongue.drop(1)
        self.assertEqual(tongue.standing(), (Family(2, ((), (0,))), Book("row", (((), "q"), ((), "r"), ((0,), "x")), None)))
        self.assertEqual((tongue.table().forms, tongue.idle(), tongue.changes()), (("q", "q"), (1, 2), 3))
        tongue.back()
        tongue.back()
        self.assertEqual(tongue.table().forms, ("r", "r", "q", "q"))
        tongue.back()
        self.assertEqual((tongue.standing(), tongue.changes()), ((SQUARE, RPQ), 0))

    def test_all_manners_keep_theirs(self):
        weights = (1, 2, 3, 4, 5, 6)
        for manner in MANNERS:
            kept = weights if manner == "weights" else None
            tongue = Tongue(SQUARE, Book(manner, (((0, 1), "a"), ((1,), "b")), kept))
            tongue.win(1, ((0,), "c"))
            tongue.drop(0)
            tongue.lose(2)
            self.assertEqual(tongue.standing(), (Family(2, ((), (1,))), Book(manner, (((1,), "a"), ((), "c")), kept)))

    def test_quarrels_and_idle_ones(self):
        tongue = Tongue(SQUARE, Book("within", (((), "r"), ((0,), "p"), ((1,), "q")), None))
        self.assertEqual((tongue.quarrels(), tongue.idle()), ((2,), ()))
        self.assertEqual(tongue.table().forms, ("r", "p", None, "q"))
        self.assertEqual((tongue.if_lost(1), tongue.if_lost(0)), ((1, 2), (0,)))
        self.assertEqual((tongue.if_won(3, ((0, 1), "p")), tongue.if_won(0, ((0,), "p"))), ((2,), (1,)))
        # No form on both sides is no change.
        self.assertEqual(tongue.if_won(0, ((0, 1), "x")), (2,))
        tongue.drop(1)
        self.assertEqual((tongue.quarrels(), tongue.idle()), ((0,), (0, 2)))

    def test_the_end(self):
        tongue = Tongue(SQUARE, Book("row", (), None))
        self.assertEqual((tongue.table().forms, tongue.sames(), tongue.idle()), ((None,) * 4, [], ()))
        self.assertEqual(tongue.if_won(0, ((0,), "a")), (1, 2))
        tongue.win(0, ((0,), "a"))
        tongue.win(1, ((), "b"))
        self.assertEqual(tongue.standing()[1].entries, (((0,), "a"), ((), "b")))
        tongue.lose(1)
        tongue.lose(0)
        self.assertEqual(tongue.standing()[1], Book("row", (), None))
        self.fails("NoEntry", {}, tongue.lose, 0)
        self.assertEqual(tongue.changes(), 4)


class Drop(Checked):

    def test_a_mark_that_no_cell_has(self):
        family = Family(4, ((1,), (), (0, 1)))
        tongue = Tongue(family, RPQ)
        tongue.drop(3)
        # The family's many stays, but its cells stand ascending.
        self.assertEqual(tongue.standing(), (Family(4, ((), (0, 1), (1,))), RPQ))
        self.assertEqual(tongue.changes(), 1)
        tongue.back()
        self.assertEqual(tongue.standing(), (family, RPQ))

    def test_cells_that_become_one(self):
        family = Family(3, ((1, 2), (0,), (0, 1, 2), (1,), (2,)))
        book = Book("row", (((0, 1), "a"), ((1,), "b"), ((), "c")), None)
        tongue = Tongue(family, book)
        self.assertEqual(tongue.table().forms, ("b", "c", "a", "b", "c"))
        tongue.drop(0)
        self.assertEqual(tongue.standing(), (Family(3, ((), (1,), (1, 2), (2,))), Book("row", (((1,), "a"), ((1,), "b"), ((), "c")), None)))
        self.assertEqual(tongue.table().forms, ("c", "a", "a", "c"))

    def test_the_same_mark_twice(self):
        tongue = Tongue(SQUARE, RPQ)
        tongue.drop(0)
        kept = tongue.standing()
        tongue.drop(0)
        self.assertEqual((tongue.standing(), tongue.changes()), (kept, 2))
        tongue.back()
        self.assertEqual((tongue.standing(), tongue.changes()), (kept, 1))
        tongue.back()
        self.assertEqual(tongue.standing(), (SQUARE, RPQ))

    def test_all_marks(self):
        tongue = Tongue(whole(4), RPQ)
        for mark in (2, 0, 3, 1):
            tongue.drop(mark)
        self.assertEqual(tongue.standing(), (Family(4, ((),)), Book("row", (((), "p"), ((), "q"), ((), "r")), None)))

    def test_marks_beyond_the_family(self):
        # Entries may have marks that the family has not; these are not marks of the family.
        tongue = Tongue(SQUARE, Book("row", (((0, 5), "a"),), None))
        for mark in no_places(2) + [2, 5, 6]:
            self.fails("NoMark", {}, tongue.drop, mark)
        self.fails("NoMark", {}, Tongue(whole(0), RPQ).drop, 0)
        self.assertEqual(tongue.changes(), 0)
        tongue.drop(0)
        self.assertEqual(tongue.standing()[1].entries, (((5,), "a"),))


class Errors(Checked):

    def test_wrong_numbers(self):
        for book in (RPQ, Book("row", (), None), THIRTEEN):
            many = len(book.entries)
            tongue = Tongue(LARGE, book)
            for number in no_places(many):
                self.fails("NoEntry", {}, tongue.lose, number)
                self.fails("NoEntry", {}, tongue.if_lost, number)
            for number in no_places(many + 1):
                self.fails("NoEntry", {}, tongue.win, number, ((), "a"))
                self.fails("NoEntry", {}, tongue.if_won, number, ((), "a"))
            self.assertEqual((tongue.standing(), tongue.changes()), ((LARGE, book), 0))

    def test_wrong_entries(self):
        tongue = Tongue(SQUARE, RPQ)
        for entry in ENTRIES_THAT_ARE_NONE + strange_things():
            self.fails("NoEntry", {}, tongue.win, 0, entry)
            self.fails("NoEntry", {}, tongue.if_won, 3, entry)
            self.fails("NoEntry", {}, tongue.win, 4, entry)
        self.assertEqual((tongue.standing(), tongue.changes()), ((SQUARE, RPQ), 0))

    def test_forty_entries(self):
        for manner in MANNERS:
            weights = (1,) * 6 if manner == "weights" else None
            tongue = Tongue(SQUARE, Book(manner, (((), "a"),) * 39, weights))
            self.assertEqual(tongue.if_won(39, ((0, 1), "b")), (2,) if manner != "row" else ())
            tongue.win(39, ((0, 1), "b"))
            for number in (0, 40):
                self.fails("TooMany", {"most": 40}, tongue.win, number, ((), "a"))
                self.fails("TooMany", {"most": 40}, tongue.if_won, number, ((), "a"))
            for number, entry in [(41, ((), "a")), (-1, ((), "a")), (0, None), (40, ((6,), "a")), (None, None)]:
                self.fails("NoEntry", {}, tongue.win, number, entry)
                self.fails("NoEntry", {}, tongue.if_won, number, entry)
            self.assertEqual((len(tongue.standing()[1].entries), tongue.changes()), (40, 1))
            tongue.lose(0)
            tongue.win(0, ((1,), "c"))
            self.assertEqual(len(tongue.standing()[1].entries), 40)

    def test_more_than_twelve_forms(self):
        tongue = Tongue(LARGE, THIRTEEN)
        for method in (tongue.table, tongue.sames):
            self.fails("TooMany", {"most": 12}, method)
        self.assertEqual((tongue.quarrels(), tongue.idle(), tongue.changes()), ((), (), 0))
        # What would be unlike is told for them, too.
        self.assertEqual(tongue.if_lost(12), tuple(number for number in range(24) if number not in range(1, 13) and form_spoken(THIRTEEN, LARGE.cells[number]) == "a"))
        self.assertEqual(tongue.if_won(13, ((), "z")), ())
        tongue.lose(0)
        self.assertEqual(len(set(tongue.table().forms)), 12)
        tongue.back()
        self.fails("TooMany", {"most": 12}, tongue.table)

    def test_nothing_done(self):
        tongue = Tongue(SQUARE, RPQ)
        self.fails("NothingDone", {}, tongue.back)
        tongue.drop(1)
        tongue.lose(0)
        tongue.back()
        tongue.back()
        for _ in range(2):
            self.fails("NothingDone", {}, tongue.back)
        self.assertEqual((tongue.standing(), tongue.changes()), ((SQUARE, RPQ), 0))
        # What was taken back is gone: a change behind it is the first one again.
        tongue.lose(2)
        self.assertEqual(tongue.changes(), 1)
        tongue.back()
        self.fails("NothingDone", {}, tongue.back)


class Copies(Checked):

    def test_goes_on_apart(self):
        tongue = Tongue(SQUARE, RPQ)
        tongue.lose(0)
        tongue.drop(0)
        other = tongue.copy()
        self.assertIs(other.__class__, Tongue)
        self.assertEqual((other.standing(), other.changes()), (tongue.standing(), 2))
        self.assertNotEqual(other, tongue)
        other.win(0, ((1,), "x"))
        tongue.back()
        self.assertEqual((tongue.changes(), other.changes()), (1, 3))
        self.assertEqual(tongue.standing(), (SQUARE, Book("row", RPQ.entries[1:], None)))
        for _ in range(3):
            other.back()
        self.assertEqual(other.standing(), (SQUARE, RPQ))
        self.fails("NothingDone", {}, other.back)
        tongue.back()
        self.assertEqual(tongue.standing(), (SQUARE, RPQ))

    def test_tongues_of_the_same(self):
        one, other = Tongue(SQUARE, RPQ), Tongue(SQUARE, RPQ)
        one.lose(0)
        self.assertEqual(other.standing(), (SQUARE, RPQ))
        self.assertEqual((SQUARE.cells, RPQ.entries), (whole(2).cells, (((0,), "p"), ((1,), "q"), ((), "r"))))
        self.assertFalse(one == (SQUARE, RPQ) or one == SQUARE)

    def test_a_new_list_each_time(self):
        tongue = Tongue(SQUARE, RPQ)
        tongue.sames().clear()
        self.assertEqual(tongue.sames(), [(0,), (1, 2), (3,)])


class Trying(Checked):

    def setUp(self):
        self.tongue = Tongue(SQUARE, RPQ)
        self.tongue.lose(0)
        self.tongue.win(0, ((0, 1), "x"))
        self.kept = self.tongue.standing()

    def put_back(self):
        """The tongue stands as it stood, and can go back as it could."""
        self.assertEqual((self.tongue.standing(), self.tongue.changes()), (self.kept, 2))
        again = self.tongue.copy()
        again.back()
        self.assertEqual(again.standing()[1].entries, RPQ.entries[1:])
        again.back()
        self.assertEqual(again.standing(), (SQUARE, RPQ))

    def test_returns_what_the_action_returned(self):
        things = [None, 5, "told", [1], (), self.tongue]
        for thing in things:
            self.assertIs(self.tongue.trying(lambda tongue, thing=thing: thing), thing)
        self.assertIs(self.tongue.trying(lambda tongue: tongue), self.tongue)
        self.assertEqual(self.tongue.trying(Tongue.changes), 2)
        self.put_back()

    def test_puts_everything_back(self):
        def action(tongue):
            tongue.drop(0)
            tongue.lose(1)
            return tongue.standing(), tongue.changes()
        standing, changes = self.tongue.trying(action)
        self.assertEqual((standing, changes), ((Family(2, ((), (1,))), Book("row", (((1,), "x"), ((), "r")), None)), 4))
        self.put_back()

    def test_an_action_that_takes_back_more(self):
        def action(tongue):
            tongue.lose(0)
            for _ in range(3):
                tongue.back()
            tongue.drop(1)
            return tongue.changes()
        self.assertEqual(self.tongue.trying(action), 1)
        self.put_back()

    def test_an_action_that_raises(self):
        class Odd(Exception):
            pass

        def action(tongue):
            tongue.back()
            tongue.drop(1)
            raise Odd()
        for kind in (Odd,):
            with self.assertRaises(kind):
                self.tongue.trying(action)
            self.put_back()
        self.fails("NoEntry", {}, self.tongue.trying, lambda tongue: (tongue.drop(0), tongue.lose(7)))
        self.put_back()
        self.fails("NothingDone", {}, self.tongue.trying, lambda tongue: [tongue.back() for _ in range(9)])
        self.put_back()
        with self.assertRaises(KeyboardInterrupt):
            self.tongue.trying(self.interrupted)
        self.put_back()

    def interrupted(self, tongue):
        tongue.lose(0)
        raise KeyboardInterrupt()

    def test_one_within_another(self):
        def inner(tongue):
            tongue.back()
            tongue.back()
            return tongue.changes()

        def outer(tongue):
            tongue.lose(0)
            first = tongue.trying(inner)
            return first, tongue.changes(), len(tongue.standing()[1].entries)
        self.assertEqual(self.tongue.trying(outer), (1, 3, 2))
        self.put_back()

        def raising(tongue):
            tongue.drop(0)
            tongue.trying(lambda tried: tried.lose(99))
        self.fails("NoEntry", {}, self.tongue.trying, raising)
        self.put_back()

    def test_a_copy_made_while_trying_stays(self):
        def action(tongue):
            tongue.drop(0)
            return tongue.copy()
        other = self.tongue.trying(action)
        self.put_back()
        self.assertEqual(other.changes(), 3)
        other.back()
        self.assertEqual(other.standing(), self.kept)


def single_changes(family, book, table):
    """The single changes behind which the table is made, by doing each of them."""
    found = []
    for word, many in (("drop", family.many), ("lose", len(book.entries))):
        for number in range(many):
            model = Model(family, book)
            getattr(model, word)(number)
            there = model.standing()[0]
            if (table.family.many, table.family.cells) == (there.many, there.cells) and list(table.forms) == model.forms():
                found.append((word, number))
    return found


class OneChange(Checked):

    def test_by_hand(self):
        self.assertEqual(one_change(SQUARE, RPQ, Table(SQUARE, ("r", "r", "q", "q"))), [("lose", 0)])
        self.assertEqual(one_change(SQUARE, RPQ, Table(Family(2, ((), (0,))), ("q", "p"))), [("drop", 1)])
        self.assertEqual(one_change(SQUARE, RPQ, Table(SQUARE, ("r", "p", "p", "q"))), [])
        twice = Book("row", (((0,), "p"), ((0,), "p"), ((), "r")), None)
        self.assertEqual(one_change(SQUARE, twice, Table(SQUARE, ("r", "p", "p", "r"))), [("lose", 0), ("lose", 1)])
        # The family in another order is another one, and so is one of more marks.
        self.assertEqual(one_change(SQUARE, RPQ, Table(Family(2, SQUARE.cells[::-1]), ("q", "q", "r", "r"))), [])
        self.assertEqual(one_change(SQUARE, RPQ, Table(Family(3, SQUARE.cells), ("r", "r", "q", "q"))), [])
        self.assertEqual(one_change(whole(0), Book("row", (), None), Table(whole(0), (None,))), [])
        # A mark that no cell has puts the cells in order, and may leave all as it was.
        wide = Family(3, SQUARE.cells)
        self.assertEqual(one_change(wide, RPQ, Table(wide, ("r", "p", "p", "q"))), [("drop", 2)])
        turned = Family(3, SQUARE.cells[::-1])
        self.assertEqual(one_change(turned, RPQ, Table(wide, ("r", "p", "p", "q"))), [("drop", 2)])
        self.assertEqual(one_change(turned, RPQ, Table(turned, ("q", "p", "p", "r"))), [])

    def test_against_all_changes(self):
        dice = Dice(261)
        lengths, words = set(), set()
        for round in range(160):
            family, book = drawn_tongue(dice, MANNERS[round % 4], 6, "abc")
            tables = []
            for word, many in (("drop", family.many), ("lose", len(book.entries))):
                for number in range(many):
                    model = Model(family, book)
                    getattr(model, word)(number)
                    tables.append(Table(model.standing()[0], tuple(model.forms())))
            for table in dice.some(tables, min(3, len(tables))) + [made(book, family)]:
                answer = one_change(family, book, table)
                self.assertEqual(answer, single_changes(family, book, table))
                self.assertEqual(answer, sorted(answer))
                lengths.add(min(len(answer), 3))
                words.add(tuple(sorted({word for word, _ in answer})))
        self.assertEqual(lengths, {0, 1, 2, 3})
        self.assertEqual(words, {(), ("drop",), ("lose",), ("drop", "lose")})

    def test_more_than_twelve_forms(self):
        twelve = Book("row", THIRTEEN.entries[1:], None)
        self.assertEqual(one_change(LARGE, THIRTEEN, made(twelve, LARGE)), [("lose", 0)])
        fourteen = Book("row", (((0, 1, 2), "z"), *THIRTEEN.entries), None)
        for table in (made(twelve, LARGE), Table(LARGE, (None,) * 24), Table(LARGE, ("a",) * 24)):
            self.assertEqual(one_change(LARGE, fourteen, table), single_changes(LARGE, fourteen, table))

    def test_a_new_list_each_time(self):
        table = Table(SQUARE, ("r", "r", "q", "q"))
        one_change(SQUARE, RPQ, table).clear()
        self.assertEqual(one_change(SQUARE, RPQ, table), [("lose", 0)])

    def test_lines(self):
        # Of a line, dropping a mark joins two neighbours.
        book = Book("within", (((), "a"), ((0,), "b"), ((0, 1), "c"), ((0, 1, 2), "d")), None)
        tongue = Tongue(line(3), book)
        for mark in range(3):
            other = tongue.copy()
            other.drop(mark)
            self.assertEqual(one_change(line(3), book, other.table()), [("drop", mark)])


if __name__ == "__main__":
    unittest.main()
