"""Points 10, 11, 46 and 47: the best mixes of linear programs, and endless ones."""

import copy
import functools
import itertools
import math

from bundlekinds.errors import BadBound, BadCount
from bundlekinds.programs import best_mix
from tests.samples import Case, chance_of

# In the first five of these a search that always takes the greatest gain, and of several rows that end it at once the
# first one, goes through many bases or round in a circle; in the last two one that takes the last of these rows.
CIRCLES = [
    ([[1, -11, -5, 18], [1, -3, -1, 2], [1, 0, 0, 0]], [0, 0, 1], [10, -57, -9, -24]),
    ([[25, -6000, -4, 900], [25, -4500, -1, 150], [0, 0, 1, 0]], [0, 0, 1], [75, -15000, 2, -600]),
    ([[1, -32, -4, 36], [1, -24, -1, 6], [0, 0, 1, 0]], [0, 0, 1], [3, -80, 2, -24]),
    ([[-2, -9, 1, 9], [1, 3, -1, -6], [2, 3, -1, -12]], [0, 0, 2], [2, 3, -1, -12]),
    ([[9, -4, -2, 1], [-6, -7, 1, -8], [3, -1, -1, 2]], [0, 0, 0], [0, -8, 0, 8]),
    ([[0, -1, 3, 3, 1, 17], [-19, -3, -3, -13, -3, -18], [0, -16, 1, -24, 1, 17], [-21, -3, 3, -3, 19, 0]],
     [0, 0, 0, 0], [-9, -4, 9, -9, -2, 1]),
    ([[2, -9, -2, -1, 26, 7], [0, -15, -1, -1, -2, -2], [1, -5, -1, 3, -8, 0], [20, -9, 0, 25, 2, -28]],
     [0, 0, 0, 0], [6, -6, 4, 2, -3, 2]),
]


def product_sum(one, other):
    return sum(first * second for first, second in zip(one, other))


class Mixes(Case):
    def check_numbers(self, numbers, many):
        self.assertIs(numbers.__class__, tuple)
        self.assertEqual(len(numbers), many)
        for number in numbers:
            self.assertIs(number.__class__, int)
            self.assertGreaterEqual(number, 0)

    def check_best(self, told, rows, bounds, worths):
        """Check the conditions of a best mix, which show that there is no better one."""
        _, unit, numbers, costs = told
        self.assertIs(unit.__class__, int)
        self.assertGreaterEqual(unit, 1)
        self.check_numbers(numbers, len(worths))
        self.check_numbers(costs, len(rows))
        for row, bound in zip(rows, bounds):
            self.assertLessEqual(product_sum(row, numbers), bound * unit)
        for at, worth in enumerate(worths):
            self.assertGreaterEqual(sum(row[at] * cost for row, cost in zip(rows, costs)), worth * unit)
        self.assertEqual(product_sum(bounds, costs), product_sum(worths, numbers))
        self.assertEqual(functools.reduce(math.gcd, numbers + costs, unit), 1)

    def check_endless(self, told, rows, worths):
        """Check the conditions of numbers that show that there are mixes of any worth."""
        _, numbers = told
        self.check_numbers(numbers, len(worths))
        for row in rows:
            self.assertLessEqual(product_sum(row, numbers), 0)
        self.assertGreater(product_sum(worths, numbers), 0)

    def check_mix(self, rows, bounds, worths):
        """Check what is told for a program; return its kind."""
        before = copy.deepcopy([rows, bounds, worths])
        told = best_mix(rows, bounds, worths)
        self.assertEqual([rows, bounds, worths], before)
        self.assertIs(told.__class__, tuple)
        if told[0] == "best":
            self.assertEqual(len(told), 4)
            self.check_best(told, rows, bounds, worths)
        else:
            self.assertEqual([told[0], len(told)], ["endless", 2])
            self.check_endless(told, rows, worths)
        self.assertEqual(best_mix(tuple(tuple(row) for row in rows), tuple(bounds), tuple(worths)), told)
        return told[0]

    def test_the_examples(self):
        self.assertEqual(best_mix([[2, 1], [1, 3]], [4, 5], [1, 1]), ("best", 5, (7, 6), (2, 1)))
        self.assertEqual(best_mix([[1, -1]], [3], [0, 1])[0], "endless")
        self.check_mix([[1, -1]], [3], [0, 1])

    def test_programs_without_rows_or_worths(self):
        self.assertEqual(best_mix([], [], []), ("best", 1, (), ()))
        self.assertEqual(best_mix([[]], [0], []), ("best", 1, (), (0,)))
        self.assertEqual(best_mix([[], [], []], [4, 0, 7], []), ("best", 1, (), (0, 0, 0)))
        self.assertEqual(best_mix([], [], [0, -3]), ("best", 1, (0, 0), ()))
        self.check_mix([], [], [0, 2, -3])
        self.assertEqual(best_mix([], [], [1])[0], "endless")

    def test_programs_of_one_row(self):
        self.assertEqual(best_mix([[3]], [2], [5]), ("best", 3, (2,), (5,)))
        self.assertEqual(best_mix([[3]], [6], [3]), ("best", 1, (2,), (1,)))
        self.assertEqual(best_mix([[3]], [0], [3]), ("best", 1, (0,), (1,)))
        self.assertEqual(best_mix([[3]], [6], [-1]), ("best", 1, (0,), (0,)))
        self.assertEqual(best_mix([[0]], [6], [1])[0], "endless")
        self.assertEqual(best_mix([[0]], [6], [0]), ("best", 1, (0,), (0,)))
        self.assertEqual(best_mix([[4, 6]], [10], [6, 8]), ("best", 2, (5, 0), (3,)))

    def test_every_tiny_program(self):
        for items in itertools.product(range(-1, 2), repeat=4):
            for bounds in [[0, 0], [0, 1], [2, 1]]:
                for worths in itertools.product(range(-1, 2), repeat=2):
                    self.check_mix([list(items[:2]), list(items[2:])], bounds, list(worths))

    def test_programs_with_small_integers(self):
        chance = chance_of("mixes")
        kinds = {}
        for many in range(6):
            for width in range(7):
                for low, high in [(-3, 3), (-1, 1), (0, 2), (-2, 5), (0, 1), (-9, 30)]:
                    for bound in [0, 1, 7]:
                        rows = [[chance.randint(low, high) for _ in range(width)] for _ in range(many)]
                        bounds = [chance.choice([0, bound, chance.randint(0, bound)]) for _ in range(many)]
                        worths = [chance.randint(low, high) for _ in range(width)]
                        kind = self.check_mix(rows, bounds, worths)
                        kinds[kind] = kinds.get(kind, 0) + 1
        self.assertEqual(set(kinds), {"best", "endless"})
        self.assertGreater(min(kinds.values()), 150)

    def test_bounds_of_0(self):
        chance = chance_of("zero")
        for _ in range(600):
            many, width = chance.randint(1, 5), chance.randint(1, 6)
            rows = [[chance.randint(-2, 3) for _ in range(width)] for _ in range(many)]
            self.check_mix(rows, [0] * many, [chance.randint(-1, 4) for _ in range(width)])

    def test_programs_in_which_many_mixes_are_best(self):
        chance = chance_of("many")
        for many in range(1, 6):
            for width in range(1, 7):
                row = [chance.randint(1, 2) for _ in range(width)]
                self.check_mix([row] * many, [4] * many, row)
                self.check_mix([[1] * width] * many, [3] * many, [1] * width)
                self.check_mix([[1 if at == k else 0 for at in range(width)] for k in range(many)], [1] * many,
                               [1 if at < many else 0 for at in range(width)])

    def test_programs_in_which_a_search_could_go_round_in_a_circle(self):
        for rows, bounds, worths in CIRCLES:
            self.check_mix(rows, bounds, worths)
            for order in itertools.permutations(range(len(rows))):
                self.check_mix([rows[at] for at in order], [bounds[at] for at in order], worths)
            self.check_mix([row[::-1] for row in rows], bounds, worths[::-1])

    def test_programs_of_12_rows_and_200_worths(self):
        chance = chance_of("great")
        for low, high in [(-9, 9), (0, 9), (0, 1), (-1, 9), (-2, 30), (1, 1000000), (-1000000, 1000000)]:
            for bound in [0, 1, 1000000]:
                rows = [[chance.randint(low, high) for _ in range(200)] for _ in range(12)]
                worths = [chance.randint(low, high) for _ in range(200)]
                self.check_mix(rows, [chance.randint(0, bound) for _ in rows], worths)

    def test_a_search_that_has_far_to_go(self):
        many = 12
        rows = [[2 * 10 ** (at - k) if k < at else int(k == at) for k in range(many)] for at in range(many)]
        told = best_mix(rows, [100 ** at for at in range(many)], [10 ** (many - 1 - at) for at in range(many)])
        self.check_best(told, rows, [100 ** at for at in range(many)], [10 ** (many - 1 - at) for at in range(many)])
        self.assertEqual(told[2], (0,) * 11 + (100 ** 11,))

    def test_great_integers(self):
        great = 10 ** 40
        self.assertEqual(best_mix([[great, 1]], [great], [great, great]), ("best", 1, (0, great), (great,)))
        self.check_mix([[great + 1, 3], [7, great]], [great, 5 * great], [3 * great, great])

    def test_the_arguments_may_be_passed_by_name(self):
        self.assertEqual(best_mix(worths=[1, 1], bounds=[4, 5], rows=[[2, 1], [1, 3]]), ("best", 5, (7, 6), (2, 1)))


class Refusing(Case):
    def test_a_bound_for_each_row(self):
        for rows, bounds in [([[1]], []), ([[1]], [1, 2]), ([], [1]), ([[1], [1]], [3]), ([], [-1]), ([[1]], [-1, 2])]:
            self.check_raises(BadCount, {"count": len(bounds)}, best_mix, rows, bounds, [1])
        # The rows come later.
        self.check_raises(BadCount, {"count": 3}, best_mix, [[1, 2], [], [1], [1]], [1, -1, 3], [1])

    def test_an_item_for_each_worth(self):
        for rows, count in [([[], [1]], 0), ([[1], []], 0), ([[1, 2], []], 2), ([[1], [1, 2, 3]], 3)]:
            self.check_raises(BadCount, {"count": count}, best_mix, rows, [1, 1], [1])
            self.check_raises(BadCount, {"count": count}, best_mix, rows, [-1, 1], [1])
        self.check_raises(BadCount, {"count": 2}, best_mix, [[1, 2]], [1], [])
        self.check_raises(BadCount, {"count": 0}, best_mix, [[]], [1], [1])

    def test_bounds_below_0(self):
        for bounds, bound in [([-1, 2, 3], -1), ([1, -2, -3], -2), ([0, 0, -7], -7), ([-9, -1, 0], -9)]:
            self.check_raises(BadBound, {"bound": bound}, best_mix, [[1], [1], [1]], bounds, [1])
            self.check_raises(BadBound, {"bound": bound}, best_mix, [[], [], []], bounds, [])
