"""Points 9, 10, 19, 22, 23, 36, 40, 44, 52, 58, 63 and 67: equal tables, made in many ways, are told the same of."""

from bundlekinds.books import Book
from bundlekinds.breakers import Break, breakers, broken_market, wants_one
from bundlekinds.clearing import Mixture, Verdict, decide, higher, lower, marginal_prices
from bundlekinds.errors import BundleError
from bundlekinds.exchanges import exchange, exchange_case, linked
from bundlekinds.kinds import check_failure, failures, first_failure, is_substitutes
from bundlekinds.levels import climb, cost_range, least_prices, level, prices_with
from bundlekinds.markets import Market
from bundlekinds.prices import Prices, best_gain, gain, is_wanted, wanted
from bundlekinds.rises import Rise, kept, rise_case
from bundlekinds.tables import Table
from bundlekinds.walks import Stuck, is_stuck, steps, stuck_case, walk
from tests.samples import (FIVE, Case, capped_table, chance_of, failures_of, plain_bundles, rising_table,
                           substitutes_tables)

# For each class of the program: what its objects tell.
PARTS = {
    Prices: ("goods", "unit"), Stuck: ("prices", "bundle"), Rise: ("before", "after", "bundle", "good"),
    Mixture: ("unit", "weights"), Verdict: ("kind", "paper"), Break: ("factor", "others", "mixture"),
    Market: ("buyers", "goods"), Table: ("goods", "numbers"),
}


def plain_of(value):
    """Return what a value tells, without objects of the program, so that it can be compared."""
    if isinstance(value, Prices):
        return ("Prices", value.amounts(), value.unit)
    if isinstance(value, Market):
        return ("Market", {buyer: plain_of(value[buyer]) for buyer in value.buyers})
    if value.__class__ in PARTS:
        return (value.__class__.__name__, *[plain_of(getattr(value, name)) for name in PARTS[value.__class__]])
    if isinstance(value, dict):
        return {key: plain_of(value[key]) for key in value}
    if isinstance(value, (list, tuple)):
        return value.__class__(plain_of(item) for item in value)
    return value


def told_of(call, *rows):
    """Return what a call tells: what it returns, or the error that it raises."""
    try:
        return plain_of(call(*rows))
    except BundleError as error:
        return (error.__class__, vars(error))


def with_good_of_nothing(table, name):
    """Return the table in which one good more adds nothing to any bundle."""
    goods = sorted(table.goods + (name,))
    bundles = plain_bundles(tuple(goods))[1:]
    return Table(goods, [table(tuple(good for good in bundle if good != name)) for bundle in bundles])


def taken_back(table):
    """Return the table as it comes back from a book in which another one took its place."""
    book = Book(table.goods)
    book["ann"] = table
    book["ann"] = Table.plain(dict.fromkeys(table.goods, 1))
    book.drop("ann")
    book.undo()
    book.undo()
    return book["ann"]


def same_tables(table):
    """Return tables that are equal to the given one, each made in another way."""
    found = [Table.read(str(table)), table.times(1), table.plus(dict.fromkeys(table.goods, 0)),
             Market({"ann": table}).joint(), taken_back(table), table.restricted(table.goods[::-1]), table.ahead(()),
             Market({"ann": table}).with_buyer("bob", table)["bob"],
             Table(list(table.goods[::-1]), list(table.numbers))]
    if len(table.goods) < 5:
        for name in ["aa", "zoe"]:
            found += [with_good_of_nothing(table, name).ahead((name,)),
                      with_good_of_nothing(table, name).restricted(table.goods)]
    return found


class TheWhole(Case):
    def asked(self, chance, table):
        """Return calls of the functions of the program about tables of these goods, without the table itself."""
        goods = table.goods
        prices = Prices({good: chance.randint(0, 9) for good in goods}, unit=2)
        higher_ones = prices.raised(chance.choice(goods), 3)
        bundle = chance.choice(plain_bundles(goods)[1:])
        other = chance.choice(plain_bundles(goods))
        bob = Table.one_of({good: chance.randint(0, 9) for good in goods})

        def market_of(one):
            return Market({"bob": bob, "ann": one, "zoe": one})

        return [str, failures, first_failure, is_substitutes, stuck_case, rise_case, exchange_case, wants_one, breakers,
                lambda one: broken_market(one, breakers(one)), lambda one: decide(broken_market(one, breakers(one))),
                lambda one: check_failure(one, ("pair", (), goods[0], goods[-1])),
                lambda one: [gain(one, prices, bundle), best_gain(one, prices), wanted(one, prices)],
                lambda one: [is_wanted(one, prices, bundle), is_stuck(one, prices, bundle)],
                lambda one: [list(steps(one, prices, bundle)), walk(one, prices, bundle)],
                lambda one: [kept(one, prices, higher_ones, each) for each in wanted(one, prices)],
                lambda one: exchange(one, bundle, other, bundle[0]),
                lambda one: linked(one, prices, wanted(one, prices)[0], wanted(one, prices)[-1]),
                lambda one: [one.ahead(other), one.restricted(bundle), one.times(3), one(bundle), one.numbers],
                lambda one: [market_of(one).best(), market_of(one).joint(), market_of(one).best(bundle)],
                lambda one: [decide(market_of(one)), marginal_prices(market_of(one)), market_of(one)],
                lambda one: [level(market_of(one), prices), climb(market_of(one)), least_prices(market_of(one))],
                lambda one: [cost_range(market_of(one), goods[0]), prices_with(market_of(one), goods[0], 3, 2)],
                lambda one: [higher(marginal_prices(market_of(one)), prices), lower(prices, higher_ones)]]

    def tables(self):
        """Return tables of all kinds with small worths."""
        chance = chance_of("whole")
        found = [Table(["x", "y"], [3, 3, 7]), capped_table(FIVE[:3], [2, 2, 3], 4)]
        for many in range(1, 6):
            found += [rising_table(chance, FIVE[:many], 5), rising_table(chance, FIVE[:many], 1)]
            found += substitutes_tables(chance, FIVE[:many], 3)[1::2]
        return found

    def test_tables_made_in_many_ways_are_equal(self):
        for table in self.tables():
            for same in same_tables(table):
                self.assertTrue(same == table and table == same)
                self.assertFalse(same != table)
                self.assertEqual([str(same), same.goods, same.numbers], [str(table), table.goods, table.numbers])

    def test_every_function_says_the_same_of_equal_tables(self):
        chance = chance_of("says")
        for table in self.tables():
            calls = self.asked(chance, table)
            expected = [told_of(call, table) for call in calls]
            for same in same_tables(table):
                order = chance.sample(range(len(calls)), len(calls))
                for at in order[:12]:
                    self.assertEqual(told_of(calls[at], same), expected[at])
            # The same again after all that was asked before.
            self.assertEqual([told_of(call, table) for call in reversed(calls)], expected[::-1])

    def test_all_cases_exist_exactly_if_the_goods_are_no_substitutes(self):
        for table in self.tables():
            for call in [stuck_case, rise_case, exchange_case, breakers]:
                self.assertIs(told_of(call, table)[0].__class__ is type, not failures_of(table))

    def test_a_good_of_worth_0_changes_no_kind(self):
        for table in self.tables():
            if len(table.goods) < 5:
                for name in ["aa", "zoe"]:
                    more = with_good_of_nothing(table, name)
                    self.assertIs(is_substitutes(more), is_substitutes(table))
                    self.assertIs(wants_one(more), wants_one(table))

    def test_what_is_made_of_substitutes_are_substitutes(self):
        chance = chance_of("made")
        for many in range(1, 6):
            for table in substitutes_tables(chance, FIVE[:many], 9):
                for bundle in plain_bundles(table.goods)[1:]:
                    self.assertIs(is_substitutes(table.restricted(bundle)), True)
                    if bundle != table.goods:
                        self.assertIs(is_substitutes(table.ahead(bundle)), True)
                self.assertIs(is_substitutes(table.times(7)), True)
                self.assertIs(is_substitutes(Market({"ann": table, "bob": table.times(2)}).joint()), True)
