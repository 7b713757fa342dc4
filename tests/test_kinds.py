"""count and part: points [1], [2], [3] and [5], and kindturn/kinds.py of the interface."""

import copy
import inspect
import unittest

from kindturn.errors import KindError, NoTurning
from kindturn.kinds import count, part
from samples import (
    A, B, C, D, MOST, NONE, ONE, all_things, both, either, leaning_left, leaning_right, mixed, small_kinds,
)

SIZES = [(2, 1, 0, 3), (0, 0, 0, 0), (1, 1, 1, 1), (0, 3, 2, 1)]


class Count(unittest.TestCase):
    def test_none_and_one_hang_on_no_size(self):
        for sizes in SIZES + [(MOST,) * 4]:
            self.assertEqual(count(NONE, sizes), 0)
            self.assertEqual(count(ONE, sizes), 1)

    def test_each_name_has_its_own_size(self):
        sizes = (5, 0, MOST, 7)
        self.assertEqual([count(name, sizes) for name in (A, B, C, D)], list(sizes))

    def test_either_adds_and_both_multiplies(self):
        sizes = (2, 3, 5, 7)
        self.assertEqual(count(either(A, B), sizes), 5)
        self.assertEqual(count(both(A, B), sizes), 6)
        self.assertEqual(count(either(A, both(B, C)), sizes), 17)
        self.assertEqual(count(both(either(A, B), either(C, D)), sizes), 60)

    def test_kinds_without_a_thing(self):
        sizes = (0, 4, 4, 4)
        for kind in (A, either(NONE, NONE), either(A, NONE), both(NONE, B), both(B, NONE), both(A, B), both(ONE, A)):
            with self.subTest(kind):
                self.assertEqual(count(kind, sizes), 0)

    def test_as_many_as_there_are_things(self):
        for kind in small_kinds():
            for sizes in SIZES:
                self.assertEqual(count(kind, sizes), len(all_things(kind, sizes)), (kind, sizes))

    def test_kinds_of_100_parts_and_somewhat_more(self):
        sizes = (MOST,) * 4
        for leaves in (50, 51, 100):
            for leaning in (leaning_left, leaning_right):
                self.assertEqual(count(leaning("either", [A, B] * leaves), sizes), 2 * leaves * MOST)
                self.assertEqual(count(leaning("both", [C] * leaves), sizes), MOST ** leaves)

    def test_mixed_kind_of_many_parts(self):
        self.assertEqual(count(mixed(7), (0, 2, 0, 0)), len(all_things(mixed(7), (0, 2, 0, 0))))
        self.assertEqual(count(mixed(50), (0, 0, 0, 0)), 0)

    def test_sizes_of_a_million(self):
        sizes = (MOST, MOST, MOST, MOST)
        self.assertEqual(count(either(both(A, B), both(C, D)), sizes), 2 * 10 ** 12)


class Part(unittest.TestCase):
    kind = either(both(A, B), either(ONE, both(C, NONE)))

    def refused(self, kind, path):
        with self.assertRaises(KindError) as caught:
            part(kind, path)
        self.assertIs(type(caught.exception), NoTurning, path)

    def test_the_empty_path_is_the_kind_itself(self):
        for kind in small_kinds():
            self.assertEqual(part(kind, ()), kind)

    def test_0_leads_into_the_first_and_1_into_the_second(self):
        for word in ("either", "both"):
            self.assertEqual(part((word, A, B), (0,)), A)
            self.assertEqual(part((word, A, B), (1,)), B)

    def test_a_path_is_walked_from_its_head(self):
        told = {
            (0,): both(A, B), (1,): either(ONE, both(C, NONE)),
            (0, 0): A, (0, 1): B, (1, 0): ONE, (1, 1): both(C, NONE), (1, 1, 0): C, (1, 1, 1): NONE,
        }
        for path, found in told.items():
            self.assertEqual(part(self.kind, path), found, path)

    def test_no_path_leads_on_from_a_part_without_parts(self):
        for leaf in (NONE, ONE, A, B, C, D):
            for step in (0, 1, -1, 2):
                self.refused(leaf, (step,))
                self.refused(either(ONE, leaf), (1, step))
        for path in ((0, 0, 0), (0, 1, 1), (1, 0, 0), (1, 1, 0, 0), (1, 1, 1, 0), (0, 0, 0, 0, 0)):
            self.refused(self.kind, path)

    def test_no_other_step_than_0_and_1(self):
        for step in (-1, -2, -3, 2, 3, 10 ** 30, -(10 ** 30), 10 ** 5000):
            for path in ((step,), (1, step), (step, 0), (1, 1, step)):
                self.refused(self.kind, path)

    def test_kinds_of_100_parts_and_somewhat_more(self):
        for leaves in (50, 51, 200):
            kind = leaning_right("both", [A] * (leaves - 1) + [D])
            self.assertEqual(part(kind, (1,) * (leaves - 1)), D)
            self.assertEqual(part(kind, (1,) * (leaves - 2) + (0,)), A)
            self.refused(kind, (1,) * leaves)
            self.refused(kind, (0, 0))
            kind = leaning_left("either", [C] + [A] * (leaves - 1))
            self.assertEqual(part(kind, (0,) * (leaves - 1)), C)
            self.refused(kind, (0,) * leaves)

    def test_a_long_path_is_refused(self):
        self.refused(self.kind, (0,) * 5000)


class Interface(unittest.TestCase):
    def test_names_of_the_arguments(self):
        self.assertEqual(list(inspect.signature(count).parameters), ["kind", "sizes"])
        self.assertEqual(list(inspect.signature(part).parameters), ["kind", "path"])

    def test_what_is_handed_in_stays(self):
        for kind in small_kinds()[::7]:
            sizes, path = (2, 1, 0, 3), (0, 1)
            handed = (kind, sizes, path)
            before = copy.deepcopy(handed)
            count(kind, sizes)
            try:
                part(kind, path)
            except NoTurning:
                pass
            self.assertEqual(handed, before)

    def test_nothing_hangs_on_what_was_asked_ahead(self):
        kind = both(A, either(B, ONE))
        told = [count(kind, sizes) for sizes in ((2, 3, 0, 0), (0, 3, 0, 0), (5, 0, 0, 0), (2, 3, 0, 0))]
        self.assertEqual(told, [8, 0, 5, 8])


if __name__ == "__main__":
    unittest.main()
