"""Points 10, 11 and 59 to 65: books, their changes, and what they would tell after others."""

import random

from bundlekinds.books import Book
from bundlekinds.clearing import check_paper, decide
from bundlekinds.errors import (BadCount, BadName, DuplicateName, NothingToUndo, UnknownName, UnlikeGoods)
from bundlekinds.markets import Market
from bundlekinds.tables import Table
from tests.samples import FIVE, Case, any_values, chance_of, rising_table
from tests.sharings import NAMES

ANN = Table(["x", "y"], [3, 3, 7])
BOB = Table.one_of({"x": 10, "y": 10})
OTHER = Table.plain({"x": 1, "z": 1})
BAD_NAMES = ["", "X", "1x", "anna123", "a b", "Ann", "-", "a\n", "toolong"]


def filled(rows):
    """Return a new book into which the tables are stored under their names in this order."""
    book = Book(["x", "y"] if not rows else rows[0][1].goods)
    for name, table in rows:
        book[name] = table
    return book


def told_of(call):
    """Return what a call tells: its error, its market, or its verdict, so that it can be compared."""
    try:
        value = call()
    except (BadCount, UnknownName, BadName, UnlikeGoods) as error:
        return (error.__class__, vars(error))
    if isinstance(value, Market):
        return value
    if value.kind == "clears":
        _, prices, sharing = value.paper
        return ("clears", prices.amounts(), prices.unit, sharing)
    return ("mixture", value.paper[1].unit, value.paper[1].weights)


class BookCase(Case):
    def check_book(self, book, rows):
        """Check that a book tells all as a new one with the same tables in the same order."""
        new = filled(rows)
        names = tuple(name for name, _ in rows)
        self.assertEqual([book.order, new.order, len(book), len(new)], [names, names, len(rows), len(rows)])
        for name in [*NAMES, "zoe", "", "X"]:
            self.assertIs(name in book, name in names)
            if name not in names:
                self.check_raises(UnknownName, {"name": name}, book.__getitem__, name)
        for name, table in rows:
            self.assertEqual(book[name], table)
        if rows:
            self.assertEqual(book.market(), Market(dict(rows)))
            self.assertIs(check_paper(book.market(), book.verdict().paper), True)
        self.assertEqual(told_of(book.market), told_of(new.market))
        self.assertEqual(told_of(book.verdict), told_of(new.verdict))


class Books(BookCase):
    def test_the_example(self):
        book = Book(["y", "x"])
        book["ann"] = Table(["x", "y"], [3, 3, 7])
        kind = book.tried([("bob", Table.one_of({"x": 10, "y": 10}))]).kind
        self.assertEqual([kind, book.verdict().kind, book.order, len(book)], ["mixture", "clears", ("ann",), 1])

    def test_a_new_book(self):
        for book in [Book(["y", "x"]), Book(goods=("x", "y"))]:
            self.assertEqual([book.goods, book.order, len(book)], [("x", "y"), (), 0])
            self.check_book(book, [])
            self.check_raises(BadCount, {"count": 0}, book.market)
            self.check_raises(BadCount, {"count": 0}, book.verdict)
            self.check_raises(NothingToUndo, {}, book.undo)

    def test_wrong_goods(self):
        wrong = [([], BadCount, {"count": 0}), (["z"] * 6, BadCount, {"count": 6}),
                 (["x", "X", "x"], BadName, {"name": "X"}), (["x", "x", "X"], DuplicateName, {"name": "x"})]
        for goods, kind, told in wrong:
            self.check_raises(kind, told, Book, goods)
            self.check_raises(kind, told, Book, goods=tuple(goods))

    def test_the_goods_are_copied(self):
        goods = ["y", "x"]
        book = Book(goods)
        goods[0] = "z"
        book["ann"] = ANN
        self.assertEqual([book.goods, goods], [("x", "y"), ["z", "x"]])
        for name in ["goods", "order"]:
            with self.assertRaises(AttributeError):
                setattr(book, name, ())

    def test_a_book_is_not_equal_to_a_value_of_another_kind(self):
        for value in any_values() + [ANN, Market({"ann": ANN}), ("ann",)]:
            self.assertFalse(filled([("ann", ANN)]) == value)
            self.assertTrue(filled([("ann", ANN)]) != value)

    def test_stores_and_drops(self):
        book = Book(["x", "y"])
        book["bob"] = BOB
        book["ann"] = ANN
        self.check_book(book, [("bob", BOB), ("ann", ANN)])
        book["bob"] = ANN
        self.check_book(book, [("bob", ANN), ("ann", ANN)])
        self.assertIs(book.drop("bob"), None)
        self.check_book(book, [("ann", ANN)])
        book["bob"] = BOB
        self.check_book(book, [("ann", ANN), ("bob", BOB)])
        book.drop(name="ann")
        book.drop("bob")
        self.check_book(book, [])
        self.check_raises(BadCount, {"count": 0}, book.verdict)

    def test_a_market_told_before_stays(self):
        book = filled([("ann", ANN), ("bob", BOB)])
        market = book.market()
        order = book.order
        book["ann"] = BOB
        book["zoe"] = ANN
        book.drop("bob")
        book.undo()
        self.assertEqual(market, Market({"ann": ANN, "bob": BOB}))
        self.assertEqual(order, ("ann", "bob"))

    def test_the_errors_of_stores_in_their_order(self):
        full = [(f"b{at}", ANN) for at in range(6)]
        for rows in [[], full[:2], full]:
            book = filled(rows)
            for name in BAD_NAMES:
                self.check_raises(BadName, {"name": name}, book.__setitem__, name, ANN)
                self.check_raises(BadName, {"name": name}, book.__setitem__, name, OTHER)
            for name in ["b0", "zoe"]:
                self.check_raises(UnlikeGoods, {"names": ("x", "z")}, book.__setitem__, name, OTHER)
                self.check_raises(UnlikeGoods, {"names": ("x",)}, book.__setitem__, name, ANN.restricted(["x"]))
            if len(rows) == 6:
                self.check_raises(BadCount, {"count": 7}, book.__setitem__, "zoe", BOB)
            self.check_book(book, rows)
        book = filled(full)
        book["b3"] = BOB
        self.check_book(book, [(name, BOB if name == "b3" else ANN) for name, _ in full])
        book.undo()
        self.check_book(book, full)

    def test_names_that_are_not_there(self):
        book = filled([("ann", ANN)])
        for name in BAD_NAMES + ["bob", "an", "x"]:
            self.check_raises(UnknownName, {"name": name}, book.drop, name)
            self.check_raises(UnknownName, {"name": name}, book.__getitem__, name)
            self.assertIs(name in book, False)
        self.check_book(book, [("ann", ANN)])

    def test_a_book_is_read_by_names_alone(self):
        with self.assertRaises(TypeError):
            list(filled([("ann", ANN)]))


class Undo(BookCase):
    def test_each_change_is_taken_back_by_itself(self):
        book = Book(["x", "y"])
        rows = [[], [("bob", BOB)], [("bob", BOB), ("ann", ANN)], [("bob", ANN), ("ann", ANN)], [("ann", ANN)],
                [("ann", ANN), ("bob", BOB)]]
        book["bob"] = BOB
        book["ann"] = ANN
        book["bob"] = ANN
        book.drop("bob")
        book["bob"] = BOB
        for before in reversed(rows[:-1]):
            self.assertIs(book.undo(), None)
            self.check_book(book, before)
        for _ in range(3):
            self.check_raises(NothingToUndo, {}, book.undo)
        book["zoe"] = ANN
        self.check_book(book, [("zoe", ANN)])
        book.undo()
        self.check_book(book, [])
        self.check_raises(NothingToUndo, {}, book.undo)

    def test_an_equal_table_is_a_change_too(self):
        book = filled([("ann", ANN), ("bob", BOB)])
        book["ann"] = Table.read(str(ANN))
        book.undo()
        self.check_book(book, [("ann", ANN), ("bob", BOB)])
        book.undo()
        self.check_book(book, [("ann", ANN)])

    def test_a_dropped_table_comes_back_to_its_place(self):
        rows = [("zoe", ANN), ("ann", BOB), ("main", ANN)]
        for name, _ in rows:
            book = filled(rows)
            book.drop(name)
            self.check_book(book, [row for row in rows if row[0] != name])
            book.undo()
            self.check_book(book, rows)

    def test_what_raises_an_error_or_changes_nothing_is_no_change(self):
        book = filled([("ann", ANN), ("bob", BOB)])
        for call in [lambda: book.drop("zoe"), lambda: book.__setitem__("X", ANN),
                     lambda: book.__setitem__("zoe", OTHER), lambda: book["zoe"], book.market, book.verdict,
                     lambda: book.tried([("zoe", ANN)]), lambda: book.tried([("zoe", None)])]:
            told_of_any(call)
        book.undo()
        self.check_book(book, [("ann", ANN)])


def told_of_any(call):
    """Call something that may raise one of the errors of books."""
    try:
        call()
    except (UnknownName, BadName, UnlikeGoods):
        return


class Tried(BookCase):
    rows = [("bob", BOB), ("ann", ANN)]

    def check_tried(self, changes):
        """Check what is told of some changes against a book in which they are made; the book itself stays."""
        book = filled(self.rows)
        book["ann"] = BOB
        rows = [("bob", BOB), ("ann", BOB)]

        def made():
            other = filled(rows)
            for name, table in changes:
                if table is None:
                    other.drop(name)
                else:
                    other[name] = table
            return other.verdict()

        expected = told_of(made)
        for given in [changes, tuple(changes)]:
            self.assertEqual(told_of(lambda: book.tried(given)), expected)
            self.assertEqual(told_of(lambda: book.tried(changes=given)), expected)
            self.check_book(book, rows)
        book.undo()
        self.check_book(book, self.rows)
        return expected

    def test_no_changes(self):
        book = filled(self.rows)
        for changes in [[], ()]:
            self.assertEqual(told_of(lambda: book.tried(changes)), told_of(book.verdict))
            self.assertEqual(told_of(lambda: Book(["x"]).tried(changes)), (BadCount, {"count": 0}))

    def test_changes_without_errors(self):
        for changes in [[("zoe", BOB)], [("bob", None)], [("bob", ANN)], [("bob", None), ("bob", ANN)],
                        [("zoe", BOB), ("zoe", None)], [("ann", BOB), ("ann", ANN), ("bob", None), ("c", BOB)],
                        [(f"b{at}", BOB) for at in range(4)]]:
            self.assertIn(self.check_tried(changes)[0], ["clears", "mixture"])

    def test_the_first_error_counts(self):
        full = [(f"b{at}", BOB) for at in range(4)]
        wrong = [([("X", ANN)], BadName, {"name": "X"}), ([("X", OTHER)], BadName, {"name": "X"}),
                 ([("zoe", OTHER)], UnlikeGoods, {"names": ("x", "z")}),
                 ([("zoe", None)], UnknownName, {"name": "zoe"}),
                 ([("X", None)], UnknownName, {"name": "X"}), ([("", None)], UnknownName, {"name": ""}),
                 ([("bob", None), ("bob", None)], UnknownName, {"name": "bob"}),
                 ([*full, ("zoe", ANN)], BadCount, {"count": 7}),
                 ([*full, ("zoe", OTHER)], UnlikeGoods, {"names": ("x", "z")}),
                 ([("bob", None), ("ann", None)], BadCount, {"count": 0}),
                 ([("bob", None), ("ann", None), ("ann", None)], UnknownName, {"name": "ann"}),
                 ([("bob", ANN), ("X", ANN), ("zoe", None)], BadName, {"name": "X"}),
                 ([("zoe", None), ("X", ANN)], UnknownName, {"name": "zoe"})]
        for changes, kind, told in wrong:
            self.assertEqual(self.check_tried(changes), (kind, told))
            self.check_raises(kind, told, filled(self.rows).tried, changes)

    def test_no_table_is_left_for_a_while(self):
        changes = [("bob", None), ("ann", None), ("zoe", ANN)]
        self.assertEqual(self.check_tried(changes)[0], "clears")

    def test_a_seventh_name_for_a_while(self):
        full = [(f"b{at}", BOB) for at in range(4)]
        self.assertEqual(self.check_tried([*full, ("bob", None), ("zoe", ANN)])[0], "clears")

    def test_the_changes_stay(self):
        changes = [("zoe", BOB), ("bob", None)]
        filled(self.rows).tried(changes)
        self.assertEqual(changes, [("zoe", BOB), ("bob", None)])

    def test_what_undo_takes_back_stays(self):
        book = filled(self.rows)
        book.drop("bob")
        book.tried([("zoe", BOB), ("ann", None)])
        self.assertEqual(told_of(lambda: book.tried([("zoe", BOB), ("X", BOB)])), (BadName, {"name": "X"}))
        book.undo()
        self.check_book(book, self.rows)
        book.undo()
        book.tried([("zoe", BOB)])
        book.undo()
        self.check_raises(NothingToUndo, {}, book.undo)


class Histories(BookCase):
    def step(self, chance, book, past, tables):
        """Do one deed with a book and with the list of what it held after each change."""
        rows = past[-1]
        name = chance.choice([*NAMES, "zoe", "X"])
        deed = chance.choice(["store", "store", "store", "drop", "undo", "undo", "tried", "wrong"])
        if deed == "store" and name != "X" and (len(rows) < 6 or name in dict(rows)):
            book[name] = table = chance.choice(tables)
            past.append(list({**dict(rows), name: table}.items()))
        elif deed == "drop" and name in dict(rows):
            book.drop(name)
            past.append([row for row in rows if row[0] != name])
        elif deed == "drop":
            self.check_raises(UnknownName, {"name": name}, book.drop, name)
        elif deed == "undo" and len(past) > 1:
            book.undo()
            past.pop()
        elif deed == "undo":
            self.check_raises(NothingToUndo, {}, book.undo)
        elif deed == "tried":
            told_of(lambda: book.tried([(name, chance.choice(tables)), (chance.choice(NAMES), None)]))
        else:
            self.check_raises(UnlikeGoods, {"names": ("q",)}, book.__setitem__, "ann", Table.plain({"q": 1}))

    def test_long_histories_of_two_books_by_turns(self):
        for seed in range(6):
            chance = random.Random(f"history {seed}")
            goods = FIVE[:1 + seed % 3]
            tables = [rising_table(chance, goods, 9) for _ in range(6)]
            books = [(Book(goods), [[]]), (Book(list(goods)), [[]])]
            for _ in range(120):
                book, past = chance.choice(books)
                self.step(chance, book, past, tables)
                for each, held in books:
                    self.check_held(each, held[-1], goods)
            for book, past in books:
                while len(past) > 1:
                    book.undo()
                    past.pop()
                    self.check_held(book, past[-1], goods)
                self.check_raises(NothingToUndo, {}, book.undo)

    def check_held(self, book, rows, goods):
        self.assertEqual(book.goods, goods)
        if rows:
            self.check_book(book, rows)
        else:
            self.assertEqual([book.order, len(book)], [(), 0])
            self.check_raises(BadCount, {"count": 0}, book.market)

    def test_a_very_long_history(self):
        book = Book(["x", "y"])
        for at in range(3000):
            book[f"b{at % 6}"] = Table(["x", "y"], [at, at, at + 7])
        self.assertEqual([book.order[0], book["b5"].numbers[0], len(book)], ["b0", 2999, 6])
        for _ in range(2999):
            book.undo()
        self.check_book(book, [("b0", Table(["x", "y"], [0, 0, 7]))])
        self.assertEqual(told_of(book.verdict), told_of(lambda: decide(Market({"b0": Table(["x", "y"], [0, 0, 7])}))))
