"""Judging: point [10], and kindturn/judging.py of the interface."""

import inspect
import unittest

from kindturn import errors
from kindturn.errors import KindError, Unlike
from kindturn.judging import judged, sent
from kindturn.kinds import count
from kindturn.things import is_thing, thing_at
from kindturn.turnings import brought, carried
from samples import (
    A, B, C, D, NONE, ONE, all_things, both, bounds, either, great_kinds, kinds_of, leaning_left, leaning_right,
    parts_of, random_kinds, small_kinds, told_bundles, told_gone, told_plain,
)

SIZES = (2, 1, 0, 3)
OTHERS = (errors.NotRead, errors.NoTurning, errors.NoNumber, errors.NoThing)


def times(many):
    """A kind of so many things, whatever the sizes: of few parts for many of them."""
    if many < 2:
        return ONE if many else NONE
    doubled = both(either(ONE, ONE), times(many // 2))
    return either(ONE, doubled) if many % 2 else doubled


def power(name, many):
    return leaning_right("both", [name] * many) if many else ONE


def polynomial(name, terms):
    """terms: how many times each power of the name is there."""
    return leaning_right("either", [both(times(many), power(name, high)) for high, many in terms])


def falling(name):
    """Two kinds that have alike many things where the name's size is 0 or 1, and nowhere else."""
    return both(name, name), name


class Judging(unittest.TestCase):
    def same(self, one, other):
        verdict = judged(one, other)
        self.assertIs(type(verdict), tuple)
        self.assertEqual((len(verdict), verdict[0]), (3, "same"))
        plain = told_plain(told_bundles(one))
        self.assertEqual(told_gone(one, verdict[1]), plain)
        self.assertEqual(told_gone(other, verdict[2]), plain)
        self.assertIs(type(verdict[1]), list)
        self.assertIs(type(verdict[2]), list)
        self.assertIsNot(verdict[1], verdict[2])
        return verdict

    def unlike(self, one, other, thing=()):
        verdict = judged(one, other)
        self.assertIs(type(verdict), tuple)
        self.assertEqual((len(verdict), verdict[0]), (2, "unlike"))
        sizes = verdict[1]
        self.assertIs(type(sizes), tuple)
        self.assertEqual([type(size) for size in sizes], [int] * 4)
        self.assertTrue(all(0 <= size <= 20 for size in sizes), sizes)
        self.assertNotEqual(count(one, sizes), count(other, sizes))
        self.refused(one, other, thing)
        return sizes

    def refused(self, one, other, thing):
        with self.assertRaises(Unlike) as caught:
            sent(one, other, thing)
        self.assertIsInstance(caught.exception, KindError)
        self.assertIsInstance(caught.exception, ValueError)
        for error in OTHERS:
            self.assertNotIsInstance(caught.exception, error)

    def judged_rightly(self, one, other):
        if told_bundles(one) == told_bundles(other):
            self.same(one, other)
        else:
            self.unlike(one, other)


class Judged(Judging):
    def test_every_two_kinds_of_at_most_three_parts(self):
        kinds = kinds_of(1) + kinds_of(3)
        for one in kinds:
            for other in kinds:
                self.judged_rightly(one, other)

    def test_kinds_of_five_parts_with_others(self):
        kinds = kinds_of(5)
        for place, one in enumerate(kinds):
            self.judged_rightly(one, kinds[(place * 7 + 3) % len(kinds)])
            self.judged_rightly(one, kinds[(place + 1) % len(kinds)])
            self.same(one, one)

    def test_greater_kinds(self):
        kinds = random_kinds(150, 16, seed=13)
        for place, one in enumerate(kinds):
            self.judged_rightly(one, kinds[place - 1])
            self.judged_rightly(one, turned_about(one))

    def test_kinds_without_a_bundle_are_the_same(self):
        vast = leaning_left("both", [either(A, B)] * 24)
        kinds = [NONE, either(NONE, NONE), both(NONE, A), both(A, NONE), both(NONE, vast), both(vast, NONE)]
        for one in kinds:
            for other in kinds:
                self.same(one, other)
            self.unlike(one, ONE)
            self.unlike(D, one)

    def test_how_often_a_bundle_is_there_matters(self):
        self.same(either(A, either(A, B)), either(either(B, A), A))
        self.unlike(either(A, either(A, B)), either(either(B, A), B))
        self.unlike(either(A, A), A)
        self.unlike(either(ONE, ONE), ONE)

    def test_alike_for_small_sizes_and_yet_not_the_same(self):
        cubes = either(both(A, both(A, A)), either(A, A)), either(both(A, A), either(both(A, A), both(A, A)))
        self.assertGreater(self.unlike(*cubes)[0], 2)
        self.assertGreater(self.unlike(cubes[1], cubes[0])[0], 2)
        fifths = polynomial(D, [(5, 1), (3, 35), (1, 24)]), polynomial(D, [(4, 10), (2, 50)])
        self.assertGreater(self.unlike(*fifths)[3], 4)
        self.assertLessEqual(max(parts_of(kind) for kind in fifths), 110)

    def test_alike_wherever_one_of_several_sizes_is_small(self):
        one, other = falling(A)
        for name in (B, C, D):
            more, less = falling(name)
            one, other = (
                either(both(one, more), both(other, less)),
                either(both(one, less), both(other, more)),
            )
        self.assertTrue(all(size > 1 for size in self.unlike(one, other)))

    def test_powers_up_to_20(self):
        for high in (1, 2, 19, 20):
            for name in (A, B, C, D):
                self.unlike(power(name, high), power(name, high - 1))
                self.same(leaning_left("both", [name] * high), power(name, high))
        self.unlike(power(A, 20), power(B, 20))
        self.unlike(leaning_left("both", [A, B] * 10), leaning_left("both", [A] * 11 + [B] * 9))

    def test_kinds_at_the_bounds(self):
        kinds = great_kinds()
        for place, one in enumerate(kinds):
            self.same(one, turned_about(one))
            self.judged_rightly(one, kinds[place - 1])
            self.unlike(one, either(one, D))
            self.unlike(either(one, ONE), one)

    def test_200_bundles_that_differ_in_one_name(self):
        one = both(leaning_left("either", [A] * 10), leaning_left("either", [B] * 20))
        other = both(leaning_left("either", [B] * 20), leaning_left("either", [A] * 10))
        self.assertEqual(bounds(one)[0], 200)
        self.same(one, other)
        self.unlike(either(one, C), either(other, D))


def turned_about(kind):
    """Another kind of the same bundles: each either and both the other way round."""
    return kind if len(kind) < 3 else (kind[0], turned_about(kind[2]), turned_about(kind[1]))


class Sent(Judging):
    def one_to_one(self, one, other, sizes):
        things, others = all_things(one, sizes), all_things(other, sizes)
        reached = [sent(one, other, thing) for thing in things]
        self.assertEqual(sorted(map(repr, reached)), sorted(map(repr, others)))
        self.assertEqual([sent(other, one, thing) for thing in reached], things)

    def test_simple_kinds(self):
        self.assertEqual(sent(A, A, 4), 4)
        self.assertEqual(sent(ONE, ONE, ()), ())
        self.assertEqual(sent(both(A, B), both(B, A), (4, 5)), (5, 4))
        self.assertEqual(sent(either(A, B), either(B, A), ("left", 4)), ("right", 4))
        self.assertEqual(sent(both(ONE, A), either(NONE, A), ((), 4)), ("right", 4))
        spread = either(both(A, B), both(A, C))
        self.assertEqual(sent(both(A, either(B, C)), spread, (4, ("right", 5))), ("right", (4, 5)))
        self.assertEqual(sent(spread, both(A, either(B, C)), ("left", (4, 5))), (4, ("left", 5)))

    def test_every_two_small_kinds_of_the_same_bundles(self):
        alike = {}
        for kind in small_kinds():
            alike.setdefault(tuple(told_bundles(kind)), []).append(kind)
        for kinds in alike.values():
            for place in range(0, len(kinds), 1 + len(kinds) // 12):
                self.one_to_one(kinds[place], kinds[-1 - place], SIZES)

    def test_greater_kinds(self):
        for kind in random_kinds(80, 9, seed=17):
            if count(kind, SIZES) <= 100:
                self.one_to_one(kind, turned_about(kind), SIZES)

    def test_bundles_that_are_alike(self):
        self.one_to_one(either(A, either(A, A)), either(either(A, A), A), (3, 0, 0, 0))
        self.one_to_one(both(either(A, B), either(A, B)), either(either(both(A, B), both(A, B)),
                                                                 either(both(B, B), both(A, A))), (2, 3, 0, 0))

    def test_by_the_first_row_forth_and_the_second_one_back(self):
        for one in random_kinds(60, 9, seed=19):
            other = turned_about(one)
            rows = judged(one, other)[1:]
            for thing in all_things(one, SIZES)[:20]:
                told = brought(other, rows[1], carried(one, rows[0], thing))
                self.assertEqual(sent(one, other, thing), told)

    def test_kinds_at_the_bounds(self):
        sizes = (10 ** 6, 3, 10 ** 5, 7)
        for one in great_kinds():
            other, many = turned_about(one), count(one, sizes)
            for number in ((0, many // 3, many - 1) if many else ()):
                thing = thing_at(one, sizes, number)
                reached = sent(one, other, thing)
                self.assertIs(is_thing(other, sizes, reached), True)
                self.assertEqual(sent(other, one, reached), thing)

    def test_refused_for_kinds_that_are_not_the_same(self):
        for one, other, thing in ((A, B, 0), (A, either(A, A), 0), (ONE, NONE, ()), (both(A, B), both(A, A), (0, 0)),
                                  (either(A, B), both(A, B), ("left", 0)), (both(A, A), A, (0, 0))):
            self.refused(one, other, thing)
            self.unlike(one, other, thing)


class Interface(unittest.TestCase):
    def test_names_of_the_arguments(self):
        self.assertEqual(list(inspect.signature(judged).parameters), ["one", "other"])
        self.assertEqual(list(inspect.signature(sent).parameters), ["one", "other", "thing"])


if __name__ == "__main__":
    unittest.main()
