"""Bundles and plain kinds: points [8] and [9], and kindturn/plain.py of the interface."""

import inspect
import itertools
import unittest

from kindturn.kinds import count
from kindturn.plain import bundles, plain_of, row_to_plain
from kindturn.turnings import brought, carried, gone
from samples import (
    A, B, C, D, NONE, ONE, TURNINGS, all_things, both, bounds, either, great_kinds, leaning_left, leaning_right,
    parts_of, random_kinds, small_kinds, told_bundles, told_gone, told_plain, told_turned,
)

SIZES = (2, 1, 0, 3)


class Bundles(unittest.TestCase):
    def test_leaves(self):
        self.assertEqual(bundles(NONE), [])
        self.assertEqual(bundles(ONE), [()])
        self.assertEqual([bundles(name) for name in (A, B, C, D)], [[(0,)], [(1,)], [(2,)], [(3,)]])

    def test_of_either_those_of_both_kinds(self):
        self.assertEqual(bundles(either(B, A)), [(0,), (1,)])
        self.assertEqual(bundles(either(A, A)), [(0,), (0,)])
        self.assertEqual(bundles(either(ONE, either(ONE, ONE))), [(), (), ()])
        self.assertEqual(bundles(either(NONE, A)), [(0,)])
        self.assertEqual(bundles(either(NONE, NONE)), [])

    def test_of_both_each_with_each(self):
        self.assertEqual(bundles(both(B, A)), [(0, 1)])
        self.assertEqual(bundles(both(A, A)), [(0, 0)])
        self.assertEqual(bundles(both(ONE, ONE)), [()])
        self.assertEqual(bundles(both(ONE, D)), [(3,)])
        self.assertEqual(bundles(both(NONE, D)), [])
        self.assertEqual(bundles(both(D, NONE)), [])
        self.assertEqual(bundles(both(either(A, B), either(A, B))), [(0, 0), (0, 1), (0, 1), (1, 1)])
        self.assertEqual(bundles(both(either(D, ONE), either(C, ONE))), [(), (2,), (2, 3), (3,)])

    def test_the_order_is_that_of_tuples(self):
        kind = leaning_right("either", [D, both(A, B), A, ONE, both(A, A), both(both(A, A), D), both(C, B)])
        self.assertEqual(bundles(kind), [(), (0,), (0, 0), (0, 0, 3), (0, 1), (1, 2), (3,)])

    def test_every_small_kind(self):
        for kind in small_kinds():
            self.assertEqual(bundles(kind), told_bundles(kind))

    def test_greater_kinds_and_kinds_at_the_bounds(self):
        for kind in great_kinds() + random_kinds(200, 25, seed=3):
            found = bundles(kind)
            self.assertEqual(found, told_bundles(kind))
            self.assertEqual(len(found), count(kind, (1, 1, 1, 1)))
            self.assertIs(type(found), list)
            self.assertTrue(all(type(bundle) is tuple for bundle in found))

    def test_the_kinds_at_the_bounds_reach_them(self):
        self.assertIn(200, [bounds(kind)[0] for kind in great_kinds()])
        self.assertIn(20, [bounds(kind)[1] for kind in great_kinds()])
        self.assertIn(99, [parts_of(kind) for kind in great_kinds()])

    def test_a_kind_without_a_bundle_beside_a_vast_one(self):
        vast = leaning_right("both", [leaning_right("either", [A, B, C])] * 16)
        for kind in (both(vast, NONE), both(NONE, vast), both(vast, both(NONE, A)), both(both(A, vast), NONE),
                     both(either(NONE, NONE), vast), both(vast, either(both(A, NONE), NONE))):
            self.assertEqual(bundles(kind), [])
            self.assertEqual(bundles(either(A, kind)), [(0,)])
            self.assertEqual(bundles(both(either(kind, B), either(C, kind))), [(1, 2)])


class PlainOf(unittest.TestCase):
    def test_no_bundle_is_none(self):
        self.assertEqual(plain_of([]), NONE)

    def test_one_bundle_is_its_plain_kind(self):
        self.assertEqual(plain_of([()]), ONE)
        self.assertEqual(plain_of([(2,)]), C)
        self.assertEqual(plain_of([(0, 3)]), both(A, D))
        self.assertEqual(plain_of([(0, 0, 1)]), both(A, both(A, B)))
        self.assertEqual(plain_of([(0, 1, 2, 3)]), both(A, both(B, both(C, D))))

    def test_more_bundles(self):
        self.assertEqual(plain_of([(), ()]), either(ONE, ONE))
        self.assertEqual(plain_of([(0,), (0,)]), either(A, A))
        self.assertEqual(plain_of([(), (0, 1), (2,)]), either(ONE, either(both(A, B), C)))

    def test_bundles_out_of_order_stay_as_they_stand(self):
        self.assertEqual(plain_of([(1,), (0,)]), either(B, A))
        self.assertEqual(plain_of([(2,), (), (0, 1)]), either(C, either(ONE, both(A, B))))
        for line in itertools.permutations([(), (0,), (0, 1), (0,), (3,)]):
            self.assertEqual(plain_of(list(line)), told_plain(list(line)))

    def test_many_bundles_of_many_names(self):
        bundle = (0,) * 5 + (1,) * 5 + (2,) * 5 + (3,) * 5
        for many in (1, 2, 200, 210):
            self.assertEqual(plain_of([bundle] * many), told_plain([bundle] * many))
        self.assertEqual(plain_of([bundle + (3, 3)]), told_plain([bundle + (3, 3)]))

    def test_the_bundles_of_a_plain_kind_are_told_again(self):
        for line in ([], [()], [(0,), (0,)], [(), (0, 0, 1), (2, 3)], [(0, 1, 2, 3)] * 200):
            self.assertEqual(bundles(plain_of(line)), line)


class RowToPlain(unittest.TestCase):
    def leads_to_plain(self, kind):
        row = row_to_plain(kind)
        self.assertIs(type(row), list)
        made = kind
        for turning in row:
            self.assertIs(type(turning), tuple)
            word, path = turning
            self.assertIn(word, TURNINGS)
            self.assertIs(type(path), tuple)
            self.assertTrue(all(type(step) is int for step in path))
            made = told_turned(made, turning)
            self.assertIsNotNone(made, (kind, turning))
        self.assertEqual(made, told_plain(told_bundles(kind)))
        self.assertEqual(gone(kind, row), made)
        return row

    def test_every_small_kind(self):
        for kind in small_kinds():
            self.leads_to_plain(kind)

    def test_kinds_of_seven_parts(self):
        leaves = [NONE, ONE, B, A]
        for heads in itertools.product(("either", "both"), repeat=3):
            for k, l, m, n in itertools.product(leaves, repeat=4):
                first, second, third = heads
                self.leads_to_plain((first, (second, k, l), (third, m, n)))
                self.leads_to_plain((first, (second, (third, k, l), m), n))
                self.leads_to_plain((first, k, (second, l, (third, m, n))))

    def test_greater_kinds(self):
        for kind in random_kinds(300, 20, seed=5):
            self.leads_to_plain(kind)

    def test_kinds_at_the_bounds(self):
        for kind in great_kinds():
            self.leads_to_plain(kind)

    def test_sums_and_products_in_every_order(self):
        for names in itertools.permutations([A, B, C, D, ONE]):
            for leaning in (leaning_left, leaning_right):
                for word in ("either", "both"):
                    self.leads_to_plain(leaning(word, list(names)))

    def test_kinds_that_are_plain_already(self):
        lines = [[], [()], [(), ()], [(0,)], [(0, 0)], [(), (0,), (0, 1), (3,)], [(0, 1, 2, 3), (0, 1, 2, 3)]]
        for line in lines + [[(0, 1, 2, 3)] * 25]:
            self.leads_to_plain(plain_of(line))
        self.assertEqual(told_gone(NONE, row_to_plain(NONE)), NONE)
        self.assertEqual(told_gone(ONE, row_to_plain(ONE)), ONE)

    def test_plain_kinds_of_200_bundles_of_20_names(self):
        line = sorted([(0,) * (place % 20) + (3,) * (20 - place % 20) for place in range(200)])
        self.leads_to_plain(plain_of(line))

    def test_things_go_there_and_come_back(self):
        for kind in small_kinds()[::3] + random_kinds(60, 8, seed=11):
            row, things = row_to_plain(kind), all_things(kind, SIZES)
            made = gone(kind, row)
            reached = [carried(kind, row, thing) for thing in things[:300]]
            self.assertEqual([brought(kind, row, thing) for thing in reached], things[:300])
            if len(things) <= 300:
                self.assertEqual(sorted(map(repr, reached)), sorted(map(repr, all_things(made, SIZES))))


class Interface(unittest.TestCase):
    def test_names_of_the_arguments(self):
        self.assertEqual(list(inspect.signature(bundles).parameters), ["kind"])
        self.assertEqual(list(inspect.signature(plain_of).parameters), ["bundles"])
        self.assertEqual(list(inspect.signature(row_to_plain).parameters), ["kind"])


if __name__ == "__main__":
    unittest.main()
