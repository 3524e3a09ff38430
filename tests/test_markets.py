"""Points 8, 10, 11, 41 and 45: markets, what they tell, and the markets that are made of them."""

from bundlekinds.errors import BadCount, BadName, DuplicateName, UnknownName, UnlikeGoods
from bundlekinds.markets import Market
from bundlekinds.tables import Table
from tests.samples import FIVE, Case, any_values, chance_of, rising_table
from tests.sharings import NAMES

ANN = Table(["x", "y"], [3, 3, 7])
BOB = Table.one_of({"x": 10, "y": 9})
BAD_NAMES = ["", "X", "1x", "anna123", "a b", "Ann", "a-", "-", " a", "a\n", "a.b", "toolong"]


class Markets(Case):
    def test_the_examples(self):
        self.check_raises(UnlikeGoods, {"names": ("y",)}, Market,
                          {"ann": Table.plain({"x": 1}), "bob": Table.plain({"y": 1})})

    def test_what_a_market_tells(self):
        market = Market({"bob": BOB, "ann": ANN})
        self.assertEqual([market.buyers, market.goods, len(market)], [("ann", "bob"), ("x", "y"), 2])
        self.assertEqual([market["ann"], market["bob"]], [ANN, BOB])
        self.assertEqual([market.buyers.__class__, market.goods.__class__], [tuple, tuple])
        for name in ["ann", "bob"]:
            self.assertIs(name in market, True)
        for name in ["", "Ann", "an", "x", "ann bob", "zoe"]:
            self.assertIs(name in market, False)
            self.check_raises(UnknownName, {"name": name}, market.__getitem__, name)

    def test_markets_of_one_to_six_buyers(self):
        chance = chance_of("markets")
        for many in range(1, 7):
            for goods in [1, 3, 5]:
                names = chance.sample(NAMES, many)
                tables = {name: rising_table(chance, FIVE[:goods], 9) for name in names}
                market = Market(tables)
                self.assertEqual([market.buyers, market.goods, len(market)],
                                 [tuple(sorted(names)), FIVE[:goods], many])
                for name in NAMES:
                    self.assertIs(name in market, name in names)
                    if name in names:
                        self.assertEqual(market[name], tables[name])
                    else:
                        self.check_raises(UnknownName, {"name": name}, market.__getitem__, name)

    def test_the_number_of_buyers(self):
        self.check_raises(BadCount, {"count": 0}, Market, {})
        for many in [7, 8, 30]:
            self.check_raises(BadCount, {"count": many}, Market, {f"b{at}": ANN for at in range(many)})
            # The number counts first, then the names.
            self.check_raises(BadCount, {"count": many}, Market, {f"B{at}": ANN for at in range(many)})

    def test_keys_that_are_no_names(self):
        for name in BAD_NAMES:
            self.check_raises(BadName, {"name": name}, Market, {name: ANN})
            self.check_raises(BadName, {"name": name}, Market, {"ann": ANN, name: BOB, "bob": BOB})
            # The name counts before the goods.
            self.check_raises(BadName, {"name": name}, Market, {"a": ANN, name: Table.plain({"z": 1})})
        for keys in [["X", "1x"], ["1x", "X"]]:
            self.check_raises(BadName, {"name": "1x"}, Market, {"ann": ANN, **dict.fromkeys(keys, ANN)})

    def test_tables_of_other_goods(self):
        one = Table.plain({"x": 1})
        more = Table.plain({"x": 1, "y": 1, "z": 1})
        for names, tables in [(("x",), {"a": ANN, "b": one, "c": more}), (("x",), {"c": more, "b": one, "a": ANN}),
                              (("x", "y", "z"), {"b": more, "c": one, "a": ANN}),
                              (("x", "y"), {"c": ANN, "b": one, "a": one}),
                              (("x", "y"), {"c": more, "b": ANN, "a": one}),
                              (("w", "y"), {"b": Table.plain({"w": 1, "y": 1}), "a": ANN})]:
            self.check_raises(UnlikeGoods, {"names": names}, Market, tables)

    def test_a_good_and_a_buyer_may_have_one_name(self):
        market = Market({"x": ANN, "y": BOB})
        self.assertEqual([market.buyers, market.goods, market["x"]], [("x", "y"), ("x", "y"), ANN])

    def test_the_dict_stays_and_may_change_later(self):
        tables = {"bob": BOB, "ann": ANN}
        market = Market(tables)
        self.assertEqual(list(tables), ["bob", "ann"])
        tables["ann"] = BOB
        tables["zoe"] = BOB
        del tables["bob"]
        self.assertEqual([market.buyers, market["ann"], market["bob"], len(market)], [("ann", "bob"), ANN, BOB, 2])
        self.assertEqual(market, Market({"ann": ANN, "bob": BOB}))

    def test_equal_markets(self):
        market = Market({"ann": ANN, "bob": BOB})
        for other in [Market({"bob": BOB, "ann": ANN}), Market(tables={"ann": Table.read(str(ANN)), "bob": BOB}),
                      market.restricted(["y", "x"]), market.with_buyer("ann", ANN)]:
            self.assertTrue(market == other)
            self.assertFalse(market != other)
        for other in [Market({"ann": ANN}), Market({"ann": BOB, "bob": ANN}), Market({"ann": ANN, "bo": BOB}),
                      Market({"ann": ANN, "bob": BOB, "c": BOB}), Market({"ann": ANN, "bob": ANN}),
                      market.restricted(["x"]), market.with_buyer("bob", Table.one_of({"x": 10, "y": 10}))]:
            self.assertFalse(market == other)
            self.assertTrue(market != other)
            self.assertFalse(other == market)

    def test_a_market_is_not_equal_to_a_value_of_another_kind(self):
        market = Market({"ann": ANN, "bob": BOB})
        for value in any_values() + [{"ann": ANN, "bob": BOB}, ("ann", "bob"), ANN]:
            self.assertFalse(market == value)
            self.assertTrue(market != value)

    def test_a_market_never_changes(self):
        market = Market({"ann": ANN, "bob": BOB})
        for name in ["buyers", "goods"]:
            with self.assertRaises(AttributeError):
                setattr(market, name, ())


class Restricted(Case):
    def test_the_tables_are_those_of_the_goods_alone(self):
        chance = chance_of("restricted")
        for goods in range(1, 6):
            tables = {name: rising_table(chance, FIVE[:goods], 9) for name in NAMES[:4]}
            market = Market(tables)
            for many in range(1, goods + 1):
                names = chance.sample(FIVE[:goods], many)
                for given in [names, tuple(names)]:
                    part = market.restricted(given)
                    self.assertEqual([part.goods, part.buyers], [tuple(sorted(names)), market.buyers])
                    self.assertEqual(part, Market({name: tables[name].restricted(names) for name in tables}))
            self.assertEqual(market, Market(tables))

    def test_wrong_goods(self):
        market = Market({"ann": ANN, "bob": BOB})
        wrong = [([], BadCount, {"count": 0}), (["z"] * 6, BadCount, {"count": 6}),
                 (["x", "X", "x"], BadName, {"name": "X"}), (["x", "x", "X"], DuplicateName, {"name": "x"}),
                 (["z", "z"], DuplicateName, {"name": "z"}), (["z", ""], BadName, {"name": ""}),
                 (["z", "x", "w"], UnknownName, {"name": "w"}), (["ann"], UnknownName, {"name": "ann"})]
        for goods, kind, told in wrong:
            self.check_raises(kind, told, market.restricted, goods)
            self.check_raises(kind, told, market.restricted, goods=tuple(goods))
        self.assertEqual(market, Market({"ann": ANN, "bob": BOB}))


class WithBuyer(Case):
    def test_a_further_buyer(self):
        market = Market({"bob": BOB})
        more = market.with_buyer("ann", ANN)
        self.assertEqual([more.buyers, more["ann"], more["bob"]], [("ann", "bob"), ANN, BOB])
        self.assertEqual([market.buyers, "ann" in market], [("bob",), False])

    def test_a_new_table_in_the_place_of_the_old_one(self):
        market = Market({"ann": ANN, "bob": BOB})
        other = market.with_buyer(table=BOB, name="ann")
        self.assertEqual([other.buyers, other["ann"], other["bob"]], [("ann", "bob"), BOB, BOB])
        self.assertEqual(market["ann"], ANN)

    def test_up_to_six_buyers(self):
        market = Market({"b0": ANN})
        for at in range(1, 6):
            market = market.with_buyer(f"b{at}", BOB)
            self.assertEqual(len(market), at + 1)
        for name in ["b6", "a", "zoe"]:
            self.check_raises(BadCount, {"count": 7}, market.with_buyer, name, ANN)
        again = market.with_buyer("b3", ANN)
        self.assertEqual([len(again), again["b3"], market["b3"]], [6, ANN, BOB])

    def test_the_errors_in_their_order(self):
        full = Market({f"b{at}": ANN for at in range(6)})
        other = Table.plain({"x": 1, "z": 1})
        for market in [full, Market({"b0": ANN})]:
            for name in BAD_NAMES:
                self.check_raises(BadName, {"name": name}, market.with_buyer, name, ANN)
                self.check_raises(BadName, {"name": name}, market.with_buyer, name, other)
            for name in ["b0", "b6"]:
                self.check_raises(UnlikeGoods, {"names": ("x", "z")}, market.with_buyer, name, other)
                self.check_raises(UnlikeGoods, {"names": ("x",)}, market.with_buyer, name, ANN.restricted(["x"]))
            self.assertEqual(market["b0"], ANN)
