"""6.1 to 6.3: shrinking, all books that speak by holding, sets."""

import unittest
from itertools import product

from sameforms.books import Book
from sameforms.families import Family, line, whole
from sameforms.holding import (all_withins, by_sets, count_withins, is_shrunk_bar, shrunk, shrunk_bar, strikes,
                               within_book)
from sameforms.tables import Table
from samples import (Checked, Dice, all_plain_books, forms_of, large_tables, lines_by_turns, made_by, nested, number_spoken,
                     shared, small_tables, strange_things, subsets, tables_of_books, tiny_tables)

SQUARE = whole(2)
RPPQ = Table(SQUARE, ("r", "p", "p", "q"))
ABA = Table(line(2), ("a", "b", "a"))
EMPTY = Table(SQUARE, (None,) * 4)
# Five forms at cells none of which holds another one: each shrunk one is the cell itself.
FOURTEEN = Family(6, ((0, 1, 2), (0, 3, 4), (1, 3, 5), (2, 4, 5), (0, 5)))
FIFTEEN = Family(6, ((0, 1, 2), (0, 3, 4), (1, 3, 5), (2, 4, 5), (0, 2, 5)))
THOUSAND = Table(Family(6, ((1, 4, 5), (1, 4), (0, 1, 2, 4), (0, 2, 5), (3, 4), (1, 2, 3))), ("a", "e", "c", "d", "e", "b"))
ONE_MORE = Table(Family(6, ((0, 1, 5), (3,), (1, 2, 5), (0, 2, 5), (0, 1, 2, 4))), ("a", "b", "c", "d", "e"))


def begun(table):
    return {form: set(shared(table, form)) for form in forms_of(table)}


def left_strikes(table, now):
    """All strikes that can be done where the forms have these marks."""
    return [(one, other, number) for one in now for number, other in enumerate(table.forms) if other not in (None, one)
            and now[one] <= set(table.family.cells[number]) and not now[one] <= now[other]]


def behind(table, done):
    """The marks behind these strikes, each of which must be one."""
    now = begun(table)
    for strike in done:
        if strike not in left_strikes(table, now):
            raise AssertionError(strike)
        now[strike[0]] = now[strike[0]] & now[strike[1]]
    return now


def all_ends(table):
    """The marks that are there when no strike is left, of all orders of strikes."""
    ends, met, waiting = [], [], [begun(table)]
    while waiting:
        now = waiting.pop()
        if now in met:
            continue
        met.append(now)
        further = left_strikes(table, now)
        if not further:
            ends.append(now)
        waiting += [{**now, one: now[one] & now[other]} for one, other, _ in further]
    return ends


def made_tables():
    return small_tables(30, 150, "abcd", 8) + large_tables(31, 25) + lines_by_turns()


class Shrunk(Checked):

    def test_the_document(self):
        self.assertEqual(shrunk(RPPQ), {"p": (0,), "q": (), "r": ()})
        self.is_flag(True, is_shrunk_bar(RPPQ, ([("q", "p", 2)], "q", "r")))

    def test_edges(self):
        self.assertEqual((shrunk(EMPTY), strikes(EMPTY), shrunk_bar(EMPTY)), ({}, [], None))
        self.assertEqual(within_book(EMPTY), Book("within", (), None))
        one = Table(SQUARE, (None, "x", "x", None))
        self.assertEqual((shrunk(one), strikes(one), shrunk_bar(one)), ({"x": (0,)}, [], None))
        self.assertEqual(within_book(one), Book("within", (((0,), "x"),), None))
        point = Table(whole(0), ("a",))
        self.assertEqual((shrunk(point), strikes(point)), ({"a": ()}, []))

    def test_no_strike_at_all(self):
        rising = Table(line(6), tuple("gfedcba"))
        self.assertEqual(shrunk(rising), {form: tuple(range(number)) for number, form in enumerate("gfedcba")})
        self.assertEqual(strikes(rising), [])
        # Both begin with no marks: they are equal without a strike.
        flat = Table(whole(1), ("b", "a"))
        both = Table(Family(2, ((0,), (1,), ())), ("b", "b", "a"))
        self.assertEqual((shrunk(flat), shrunk_bar(flat)), ({"b": (), "a": (0,)}, None))
        self.assertEqual((shrunk(both), strikes(both), shrunk_bar(both)), ({"b": (), "a": ()}, [], ([], "a", "b")))
        self.is_flag(True, is_shrunk_bar(both, ([], "a", "b")))

    def test_open_cells_strike_nothing(self):
        for forms, wanted in [(("r", "p", "p", "q"), ()), (("r", "p", None, "q"), (1,)), (("r", None, "p", "q"), (1,)),
                              (("r", "p", None, None), None)]:
            self.assertEqual(shrunk(Table(SQUARE, forms)).get("q"), wanted)
        self.assertEqual(shrunk(Table(SQUARE, ("r", "p", None, "q"))), {"p": (0,), "q": (1,), "r": ()})

    def test_by_hand(self):
        # b begins with 0, and cell 2 holds it; a has no marks.
        self.assertEqual(shrunk(ABA), {"a": (), "b": ()})
        self.assertEqual(strikes(ABA), [("b", "a", 2)])
        self.assertEqual(shrunk_bar(ABA), ([("b", "a", 2)], "a", "b"))
        # A strike that can be done only behind another one.
        chain = Table(Family(4, ((0, 1, 2), (0, 2, 3), (0, 1, 3), (1,))), ("a", "b", "a", "c"))
        self.assertEqual(begun(chain), {"a": {0, 1}, "b": {0, 2, 3}, "c": {1}})
        self.assertEqual(shrunk(chain), {"a": (0, 1), "b": (0, 2, 3), "c": (1,)})
        longer = Table(Family(4, ((0, 1, 2), (0, 1, 2, 3), (3,), (1, 2, 3))), ("a", "b", "c", "b"))
        self.assertEqual(shrunk(longer), {"a": (1, 2), "b": (1, 2, 3), "c": (3,)})

    def test_all_orders_of_strikes(self):
        lengths = set()
        dice = Dice(33)
        larger = [dice.table(5, 6 + dice.below(4), "abcd", 6) for _ in range(60)]
        for table in small_tables(32, 250, "abcd", 7) + larger + lines_by_turns():
            ends = all_ends(table)
            found = strikes(table)
            lengths.add(len(found))
            self.assertEqual(ends, [{form: set(marks) for form, marks in shrunk(table).items()}])
            self.assertEqual(behind(table, found), ends[0])
            for marks in shrunk(table).values():
                self.assertEqual(marks, tuple(sorted(marks)))
        self.assertLessEqual({0, 1, 2, 3}, lengths)

    def test_large_tables(self):
        for table in made_tables():
            now = behind(table, strikes(table))
            self.assertEqual(left_strikes(table, now), [])
            self.assertEqual({form: tuple(sorted(marks)) for form, marks in now.items()}, shrunk(table))

    def test_new_each_time(self):
        for table in (RPPQ, ABA):
            kept = (shrunk(table), strikes(table), shrunk_bar(table))
            shrunk(table).clear()
            strikes(table).clear()
            shrunk_bar(table)[0].append("x")
            self.assertEqual((shrunk(table), strikes(table), shrunk_bar(table)), kept)
            thing = ([("q", "p", 2)], "q", "r")
            is_shrunk_bar(table, thing)
            self.assertEqual(thing, ([("q", "p", 2)], "q", "r"))
        self.assertEqual(RPPQ.forms, ("r", "p", "p", "q"))


class WithinBooks(Checked):

    def test_the_second_fact(self):
        books = bars = 0
        for table in made_tables() + tiny_tables(34, 100):
            book, bar = within_book(table), shrunk_bar(table)
            self.assertNotEqual(book is None, bar is None)
            if bar is None:
                books += 1
                self.assertEqual(book, Book("within", tuple((shrunk(table)[form], form) for form in forms_of(table)), None))
                self.assertTrue(made_by(book, table))
                continue
            bars += 1
            self.assertEqual((bar.__class__, len(bar), bar[0].__class__), (tuple, 3, list))
            done, one, other = bar
            self.assertLess(one, other)
            now = behind(table, done)
            self.assertEqual(now[one], now[other])
            self.assertEqual(left_strikes(table, now), [])
            self.is_flag(True, is_shrunk_bar(table, bar))
        self.assertGreater(min(books, bars), 50)

    def test_against_all_books(self):
        for table in tiny_tables(35, 150):
            found = [book for book in all_plain_books(table, "within") if made_by(book, table)]
            self.assertEqual(bool(found), within_book(table) is not None)
            for book in found:
                for marks, form in book.entries:
                    self.assertLessEqual(set(marks), set(shrunk(table)[form]))

    def test_tables_that_books_make(self):
        for table in tables_of_books(36, 80, "within")[::2]:
            self.assertIsNone(shrunk_bar(table))
            self.assertTrue(made_by(within_book(table), table))

    def test_lines(self):
        """On a line of cells a form must stand in one stretch of the told ones."""
        for table in lines_by_turns():
            told = [form for form in table.forms if form is not None]
            turns = [form for number, form in enumerate(told) if number == 0 or told[number - 1] != form]
            self.assertEqual(within_book(table) is not None, len(turns) == len(set(turns)))


def right_bar(table, thing):
    """The words of shrunk_bar about a thing."""
    if thing.__class__ is not tuple or len(thing) != 3 or thing[0].__class__ is not list:
        return False
    done, one, other = thing
    if one not in forms_of(table) or other not in forms_of(table) or not one < other:
        return False
    now = begun(table)
    for strike in done:
        if strike.__class__ is not tuple or [part.__class__ for part in strike] != [str, str, int]:
            return False
        if strike not in left_strikes(table, now):
            return False
        now[strike[0]] = now[strike[0]] & now[strike[1]]
    return now[one] == now[other] and not left_strikes(table, now)


def bars_otherwise(table, bar):
    """The bar with one part changed."""
    done, one, other = bar
    things = [(done, form, second) for form in forms_of(table) + ["zz"] for second in forms_of(table) + ["zz"]]
    things += [(tuple(done), one, other), [done, one, other], (done, one), (done, one, other, None), (done + done, one, other),
               (done[::-1], one, other), (done + [None], one, other), (done + [()], one, other)]
    for at, strike in enumerate(done):
        changes = [(), [], [list(strike)], [strike[:2]], [(*strike, 0)], [strike, strike]]
        changes += [[(form, *strike[1:])] for form in forms_of(table) + [None, 0, "zz"]]
        changes += [[(strike[0], form, strike[2])] for form in forms_of(table) + [None, 0, "zz"]]
        changes += [[(*strike[:2], cell)] for cell in [*range(-1, len(table.forms) + 1), None, True, False, str(strike[2]), 10 ** 39]]
        things += [(done[:at] + list(change) + done[at + 1:], one, other) for change in changes]
    return things


class IsShrunkBar(Checked):

    def test_right_bars_with_one_part_changed(self):
        answers = {True: 0, False: 0}
        for table in made_tables():
            bar = shrunk_bar(table)
            for thing in [] if bar is None else bars_otherwise(table, bar):
                answer = is_shrunk_bar(table, thing)
                self.is_flag(right_bar(table, thing), answer)
                answers[answer] += 1
        self.assertGreater(answers[True], 200)
        self.assertGreater(answers[False], 5000)

    def test_other_right_bars(self):
        # Strikes in any order, by any cell, and any pair that is equal at the end.
        ways = set()
        for table in small_tables(37, 150, "abcd", 8):
            waiting = [([], begun(table))]
            for _ in range(60):
                if not waiting:
                    break
                done, now = waiting.pop()
                further = left_strikes(table, now)
                waiting += [(done + [strike], {**now, strike[0]: now[strike[0]] & now[strike[1]]}) for strike in further]
                for one, other in product(forms_of(table), repeat=2):
                    right = one < other and now[one] == now[other] and not further
                    self.is_flag(right, is_shrunk_bar(table, (done, one, other)))
                    ways.add((right, one < other, now[one] == now[other], not further))
        self.assertEqual(len(ways), 8)

    def test_where_nothing_bars(self):
        for table in (EMPTY, Table(SQUARE, ("a", None, None, "b")), Table(SQUARE, ("a",) * 4), Table(line(6), tuple("gfedcba"))):
            for thing in [([], "a", "b"), ([], "a", "a"), ([], "a", "z"), ([], None, None), ([], "f", "g"), ([],), []]:
                self.is_flag(False, is_shrunk_bar(table, thing))

    def test_things_of_any_kind(self):
        right = [("q", "p", 2)]
        wrong = [(right, "q", ["r"]), (right, ("q",), "r"), (right, "q", None), ([["q", "p", 2]], "q", "r"), ({"q": 1}, "q", "r"),
                 ("qp", "q", "r"), ([(("q",), "p", 2)], "q", "r"), ([("q", ["p"], 2)], "q", "r"),
                 ([("q", "p", [2])], "q", "r"), (nested(38, list), "q", "r"), ([nested(37, tuple)], "q", "r"), (right, nested(38, list), "r"),
                 (right * 5000, "q", "r"), ([RPPQ], "q", "r"), (RPPQ, "q", "r"), (right, RPPQ, RPPQ), ([("r", "q", 3)], "q", "r"),
                 ([("q", "p", 2), ("q", "p", 2)], "q", "r"), ([("q", "r", 0)], "q", "r"), ([("q", "p", 1)], "q", "r"), ([], "q", "r")]
        for thing in wrong + strange_things():
            self.is_flag(False, is_shrunk_bar(RPPQ, thing))
        # No form, that of an open cell, is none of the forms.
        opened = Table(line(3), ("a", "b", "a", None))
        self.is_flag(True, is_shrunk_bar(opened, ([("b", "a", 2)], "a", "b")))
        for strike in [("b", None, 3), (None, "b", 1), (None, None, 3), ("a", None, 3), ("b", "a", 3)]:
            self.is_flag(False, is_shrunk_bar(opened, ([strike], "a", "b")))
            self.is_flag(False, is_shrunk_bar(opened, ([("b", "a", 2), strike], "a", "b")))
        self.is_flag(False, is_shrunk_bar(opened, ([("b", "a", 2)], None, "b")))
        # Flags are no numbers of cells, though they are equal to some.
        low = Table(Family(2, ((0,), (0, 1), ())), ("a", "b", "b"))
        self.assertEqual(strikes(low), [("a", "b", 1)])
        self.is_flag(True, is_shrunk_bar(low, ([("a", "b", 1)], "a", "b")))
        self.is_flag(False, is_shrunk_bar(low, ([("a", "b", True)], "a", "b")))


def all_books_within(table, lots):
    """The tuples of marks, of these lots for each form, of the books that speak by holding and make the table."""
    return [chosen for chosen in product(*lots)
            if made_by(Book("within", tuple(zip(chosen, forms_of(table))), None), table)]


class Withins(Checked):

    def test_edges(self):
        self.assertEqual((count_withins(EMPTY), all_withins(EMPTY)), (1, [()]))
        self.assertEqual((count_withins(RPPQ), all_withins(RPPQ)), (0, []))
        one = Table(SQUARE, ("a", None, None, None))
        self.assertEqual((count_withins(one), all_withins(one)), (1, [((),)]))
        one = Table(SQUARE, (None, None, "a", None))
        self.assertEqual((count_withins(one), all_withins(one)), (4, [((),), ((0,),), ((0, 1),), ((1,),)]))
        self.assertEqual(all_withins(Table(SQUARE, ("b", "a", None, None))), [((0,), ())])

    def test_against_all_books(self):
        counts = set()
        for table in tiny_tables(38, 200):
            lots = [sorted(subsets(tuple(range(table.family.many))))] * len(forms_of(table))
            found = all_books_within(table, lots)
            counts.add(len(found))
            self.assertEqual(count_withins(table), len(found))
            self.assertEqual(all_withins(table), found)
        self.assertLessEqual({0, 1, 2, 3}, counts)

    def test_larger_tables(self):
        for table in small_tables(39, 60, "abcd", 8) + tables_of_books(40, 40, "within", 5, 10, "abcd"):
            lots = [sorted(subsets(shrunk(table)[form])) for form in forms_of(table)]
            if len(list(product(*lots))) <= 600:
                found = all_books_within(table, lots)
                self.assertEqual((count_withins(table), all_withins(table)), (len(found), found))

    def test_twenty_thousand(self):
        table = Table(FOURTEEN, tuple("edcba"))
        lots = [[set(lot) for lot in subsets(shrunk(table)[form])] for form in "abcde"]
        self.assertEqual(len(list(product(*lots))), 16384)
        cells = [set(cell) for cell in FOURTEEN.cells[::-1]]
        # Each form has one cell: what fits there beside its own must lie properly within that.
        many = sum(all(chosen[one] < chosen[at] or not chosen[one] <= cells[at] for at in range(5) for one in range(5) if one != at)
                   for chosen in product(*lots))
        self.assertGreater(many, 1000)
        self.assertEqual(count_withins(table), many)
        self.fails("TooMany", {"most": 1000}, all_withins, table)
        for table in (Table(FIFTEEN, tuple("edcba")), Table(Family(6, FIFTEEN.cells + ((1,),)), tuple("abcdef"))):
            self.fails("TooMany", {"most": 20000}, count_withins, table)
            self.fails("TooMany", {"most": 20000}, all_withins, table)

    def test_the_shrunk_ones_count(self):
        # The lots within the common marks would be too many, those within the shrunk ones are not.
        family = Family(6, ((0, 2, 5), (0, 3, 4, 5), (1, 2, 3, 4), (0, 1, 3, 4), (0, 1, 2, 3, 4, 5)))
        table = Table(family, ("a", "b", "c", "d", "a"))
        self.assertEqual([len(shared(table, form)) for form in "abcd"], [3, 4, 4, 4])
        self.assertEqual([len(shrunk(table)[form]) for form in "abcd"], [3, 2, 1, 1])
        lots = [sorted(subsets(shrunk(table)[form])) for form in "abcd"]
        self.assertEqual(all_withins(table), all_books_within(table, lots))
        self.assertEqual(count_withins(table), 5)

    def test_too_many_where_there_is_none(self):
        table = Table(Family(6, (*FIFTEEN.cells, (1,), (3,), (0,), (2,))), tuple("edcbaffgg"))
        self.assertIsNone(within_book(table))
        self.fails("TooMany", {"most": 20000}, count_withins, table)
        self.fails("TooMany", {"most": 20000}, all_withins, table)

    def test_a_thousand_and_one_more(self):
        found = all_withins(THOUSAND)
        self.assertEqual((len(found), count_withins(THOUSAND)), (1000, 1000))
        self.assertEqual(found, sorted(set(found)))
        for chosen in found[::37]:
            self.assertTrue(made_by(Book("within", tuple(zip(chosen, "abcde")), None), THOUSAND))
        self.assertEqual(count_withins(ONE_MORE), 1001)
        self.fails("TooMany", {"most": 1000}, all_withins, ONE_MORE)

    def test_a_new_list_each_time(self):
        all_withins(EMPTY).clear()
        self.assertEqual(all_withins(EMPTY), [()])


class BySets(Checked):

    def test_by_hand(self):
        self.assertEqual(by_sets(SQUARE, ((0,), (), (1,))), (1, 0, None, 2))
        self.assertEqual(by_sets(SQUARE, [(0, 1), (0,), (), (1,)]), (2, 1, 0, 3))
        self.assertEqual(by_sets(SQUARE, [(0,)]), (None, 0, 0, None))
        self.assertEqual(by_sets(SQUARE, [(5,)]), (None,) * 4)
        self.assertEqual(by_sets(whole(0), [()]), (0,))
        self.assertEqual(by_sets(line(3), ((0, 1), (1,), (0,))), (None, 2, 0, 0))
        # Of three that fit two are in quarrel, and the third one does not hold them.
        self.assertEqual(by_sets(Family(4, ((0, 1, 2, 3),)), ((0, 1), (2,), (1, 3))), (None,))
        self.assertEqual(by_sets(Family(4, ((0, 1, 2, 3),)), ((0, 1), (2,), (0, 1, 3))), (None,))
        self.assertEqual(by_sets(Family(4, ((0, 1, 2, 3),)), ((0, 1), (3,), (0, 1, 3))), (2,))

    def test_against_books(self):
        dice = Dice(41)
        for _ in range(150):
            family = dice.family(6, 1 + dice.below(24))
            sets = dice.some(subsets(tuple(range(6))), 1 + dice.below(12))
            book = Book("within", tuple((marks, "a") for marks in sets), None)
            wanted = tuple(number_spoken(book, cell) for cell in family.cells)
            self.assertEqual(by_sets(family, sets), wanted)
            self.assertEqual(by_sets(family, tuple(sets)), wanted)

    def test_twelve_and_thirteen(self):
        cells = subsets((0, 1, 2, 3, 4, 5))
        self.assertEqual(len(by_sets(SQUARE, cells[:12])), 4)
        self.fails("NoSets", {}, by_sets, SQUARE, cells[:13])
        self.fails("NoSets", {}, by_sets, SQUARE, tuple(cells[:13]))

    def test_no_sets(self):
        wrong = [[], (), [(0,), (0,)], ((), (1,), ()), [(1, 0)], [(0, 0)], [(6,)], [(-1,)], [(True,)], [(0, True)], [[0]], [[]], [(0,), [1]],
                 [None], ["0"], [(0,), None], {(0,): 1}, "01", [("0",)], [((0,),)], [(nested(37, tuple),)], nested(39, tuple), [0],
                 [(0, 1, 2, 3, 4, 5, 6)], [(10 ** 39,)], [SQUARE], SQUARE, [(None,)]]
        others = [thing for thing in strange_things() if thing not in ([()], [(0,)])]
        for sets in wrong + others + [((0,),) * 12, [nested(39, list)], [nested(39, tuple)]]:
            self.fails("NoSets", {}, by_sets, SQUARE, sets)
        self.assertEqual(by_sets(SQUARE, [()]), (0, 0, 0, 0))

    def test_sets_stay_as_they_were(self):
        sets = [(1,), (0,)]
        by_sets(SQUARE, sets)
        self.assertEqual(sets, [(1,), (0,)])


if __name__ == "__main__":
    unittest.main()
