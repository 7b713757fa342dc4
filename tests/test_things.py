"""is_thing, thing_at and number_of: points [1], [3] and [4], and kindturn/things.py of the interface."""

import copy
import inspect
import unittest

from kindturn.errors import KindError, NoNumber, NoThing
from kindturn.kinds import count
from kindturn.things import is_thing, number_of, thing_at
from samples import (
    A, B, C, D, MOST, NONE, ODDITIES, ONE, all_things, both, deep, either, leaning_left, leaning_right, mixed,
    small_kinds,
)

SIZES = (2, 1, 0, 3)
EMPTY = (0, 0, 0, 0)
GREAT = (MOST, MOST, MOST, MOST)


class Asking(unittest.TestCase):
    def is_one(self, kind, sizes, thing):
        self.assertIs(is_thing(kind, sizes, thing), True)

    def no_thing(self, kind, sizes, thing):
        self.assertIs(is_thing(kind, sizes, thing), False)
        with self.assertRaises(KindError) as caught:
            number_of(kind, sizes, thing)
        self.assertIs(type(caught.exception), NoThing)
        self.assertIsInstance(str(caught.exception), str)

    def no_number(self, kind, sizes, number):
        with self.assertRaises(KindError) as caught:
            thing_at(kind, sizes, number)
        self.assertIs(type(caught.exception), NoNumber)
        self.assertIsInstance(str(caught.exception), str)

    def numbered(self, kind, sizes, number, thing):
        self.assertEqual(thing_at(kind, sizes, number), thing)
        self.assertEqual(number_of(kind, sizes, thing), number)
        self.is_one(kind, sizes, thing)


class IsThing(Asking):
    def test_of_none_there_is_no_thing(self):
        for thing in ODDITIES:
            self.no_thing(NONE, GREAT, thing)

    def test_of_one_just_the_empty_tuple(self):
        for thing in ODDITIES:
            if thing == ():
                self.is_one(ONE, EMPTY, thing)
            else:
                self.no_thing(ONE, GREAT, thing)

    def test_of_a_name_the_numbers_below_its_size(self):
        for name, size in zip((A, B, C, D), SIZES):
            for number in range(size):
                self.is_one(name, SIZES, number)
            for thing in (size, size + 1, -1, -size - 1, 10 ** 5000, -(10 ** 5000)):
                self.no_thing(name, SIZES, thing)

    def test_each_name_asks_its_own_size(self):
        for place, name in enumerate((A, B, C, D)):
            sizes = tuple(4 if place == other else 0 for other in range(4))
            self.is_one(name, sizes, 3)
            for other in (A, B, C, D):
                if other != name:
                    self.no_thing(other, sizes, 0)

    def test_sizes_of_nought_and_of_a_million(self):
        self.no_thing(A, EMPTY, 0)
        self.is_one(A, GREAT, 0)
        self.is_one(A, GREAT, MOST - 1)
        self.no_thing(A, GREAT, MOST)

    def test_of_either_each_side_by_itself(self):
        kind = either(A, ONE)
        for thing in (("left", 0), ("left", 1), ("right", ())):
            self.is_one(kind, SIZES, thing)
        for thing in (("left", 2), ("left", -1), ("left", ()), ("right", 0), ("right", 1), ("none", 0), 0, ()):
            self.no_thing(kind, SIZES, thing)

    def test_of_both_each_place_by_itself(self):
        kind = both(A, ONE)
        for thing in ((0, ()), (1, ())):
            self.is_one(kind, SIZES, thing)
        for thing in ((2, ()), (-1, ()), ((), 0), (0, 0), ((), ()), (0,), (0, (), ()), 0, (), "ab"):
            self.no_thing(kind, SIZES, thing)

    def test_pairs_too_long_or_too_short(self):
        for thing in (("left",), ("left", 0, 0), ("right",), ("right", 0, 0), ("left", 0, ()), ()):
            self.no_thing(either(A, A), SIZES, thing)
        for thing in ((0,), (0, 0, 0), (), (0, 0, ())):
            self.no_thing(both(A, A), SIZES, thing)

    def test_words_are_no_things(self):
        for kind in (NONE, ONE, A, either(A, ONE), both(A, ONE), both(ONE, ONE), either(ONE, ONE)):
            for word in ("", "left", "right", "0", "ab", "()", "none"):
                self.no_thing(kind, GREAT, word)

    def test_just_the_things_that_the_document_tells(self):
        pool = list(ODDITIES)
        for kind in (A, D, either(A, D), both(A, D), either(ONE, both(A, A)), both(either(A, ONE), D)):
            pool += all_things(kind, SIZES)
        for kind in small_kinds():
            things = all_things(kind, SIZES)
            for thing in pool:
                self.assertIs(is_thing(kind, SIZES, thing), thing in things, (kind, thing))

    def test_deep_things_are_no_things_of_shallow_kinds(self):
        thing = deep(20000)
        for kind in (NONE, ONE, A, either(A, A), both(A, A), both(both(A, A), A), either(A, both(A, A))):
            self.no_thing(kind, GREAT, thing)
            self.no_thing(kind, GREAT, (thing, thing))
            self.no_thing(kind, GREAT, ("left", thing))


class Numbering(Asking):
    def test_names_as_they_are(self):
        for number in (0, 1, 2):
            self.numbered(D, SIZES, number, number)

    def test_of_either_first_the_left_ones(self):
        kind = either(A, D)
        things = [("left", 0), ("left", 1), ("right", 0), ("right", 1), ("right", 2)]
        for number, thing in enumerate(things):
            self.numbered(kind, SIZES, number, thing)

    def test_of_both_by_the_first_and_then_by_the_second(self):
        things = [(0, 0), (0, 1), (0, 2), (1, 0), (1, 1), (1, 2)]
        for number, thing in enumerate(things):
            self.numbered(both(A, D), SIZES, number, thing)

    def test_every_thing_of_small_kinds(self):
        for kind in small_kinds():
            things = all_things(kind, SIZES)
            for number, thing in enumerate(things):
                self.assertEqual(thing_at(kind, SIZES, number), thing)
                self.assertEqual(number_of(kind, SIZES, thing), number)
            self.no_number(kind, SIZES, len(things))
            self.no_number(kind, SIZES, -1)

    def test_what_is_told_is_of_the_kinds_of_things(self):
        for kind in (ONE, A, either(A, ONE), both(ONE, D), both(either(ONE, A), D)):
            for number in range(count(kind, SIZES)):
                self.assertIs(is_thing(kind, SIZES, thing_at(kind, SIZES, number)), True)

    def test_numbers_below_nought_and_beyond_the_last_one(self):
        for kind in (ONE, A, either(A, D), both(A, D)):
            last = count(kind, SIZES)
            for number in (-1, -2, -last, -last - 1, last, last + 1, 2 * last, 10 ** 5000, -(10 ** 5000)):
                self.no_number(kind, SIZES, number)

    def test_kinds_without_a_thing_have_no_number(self):
        for kind in (NONE, A, either(NONE, A), both(NONE, B), both(B, NONE), both(A, B), both(B, A)):
            for number in (-1, 0, 1):
                self.no_number(kind, (0, 3, 0, 0), number)

    def test_an_empty_side_takes_no_number(self):
        self.numbered(either(NONE, A), SIZES, 0, ("right", 0))
        self.numbered(either(A, NONE), SIZES, 1, ("left", 1))
        self.numbered(either(C, A), SIZES, 1, ("right", 1))
        self.numbered(both(ONE, A), SIZES, 1, ((), 1))
        self.numbered(both(A, ONE), SIZES, 1, (1, ()))

    def test_sizes_of_a_million(self):
        last = MOST - 1
        self.numbered(A, GREAT, last, last)
        self.numbered(either(A, B), GREAT, MOST, ("right", 0))
        self.numbered(both(A, B), GREAT, MOST, (1, 0))
        self.numbered(both(A, B), GREAT, 123456789012, (123456, 789012))
        self.numbered(both(both(A, B), both(C, D)), GREAT, MOST ** 4 - 1, ((last, last), (last, last)))
        self.numbered(either(both(A, B), C), GREAT, MOST ** 2 + 7, ("right", 7))
        self.no_number(both(A, B), GREAT, MOST ** 2)
        self.no_thing(both(A, B), GREAT, (0, MOST))


class ManyParts(Asking):
    """Kinds of 100 parts, and somewhat beyond."""

    def test_both_of_many_names(self):
        for names in (50, 51, 150):
            digits = [(place * 654321 + 17) % MOST for place in range(names)]
            number = 0
            for digit in digits:
                number = number * MOST + digit
            self.numbered(leaning_right("both", [A] * names), GREAT, number, paired_right(digits))
            self.numbered(leaning_left("both", [A] * names), GREAT, number, paired_left(digits))

    def test_first_and_last_thing_of_both(self):
        kind = leaning_right("both", [D] * 50)
        self.numbered(kind, GREAT, 0, paired_right([0] * 50))
        self.numbered(kind, GREAT, MOST ** 50 - 1, paired_right([MOST - 1] * 50))
        self.no_number(kind, GREAT, MOST ** 50)
        self.no_thing(kind, GREAT, paired_right([0] * 49 + [MOST]))
        self.no_thing(kind, GREAT, paired_right([0] * 49))
        self.no_thing(kind, GREAT, paired_right([0] * 51))

    def test_either_of_many_names(self):
        for names in (50, 51, 150):
            kind = leaning_right("either", [A] * names)
            for place in (0, 1, names // 2, names - 2):
                thing = ("left", 5)
                for _ in range(place):
                    thing = ("right", thing)
                self.numbered(kind, GREAT, place * MOST + 5, thing)
            self.no_number(kind, GREAT, names * MOST)
            thing = MOST - 1
            for _ in range(names - 1):
                thing = ("right", thing)
            self.numbered(kind, GREAT, names * MOST - 1, thing)

    def test_mixed_kind(self):
        for leaves in (20, 50, 70):
            kind = mixed(leaves)
            number = count(kind, GREAT) - 1
            for place in range(40):
                thing = thing_at(kind, GREAT, number)
                self.numbered(kind, GREAT, number, thing)
                number = number * 2 // 3 + place
            self.no_number(kind, GREAT, count(kind, GREAT))


def paired_right(things):
    made = things[-1]
    for thing in reversed(things[:-1]):
        made = (thing, made)
    return made


def paired_left(things):
    made = things[0]
    for thing in things[1:]:
        made = (made, thing)
    return made


class Interface(Asking):
    def test_names_of_the_arguments(self):
        self.assertEqual(list(inspect.signature(is_thing).parameters), ["kind", "sizes", "thing"])
        self.assertEqual(list(inspect.signature(thing_at).parameters), ["kind", "sizes", "number"])
        self.assertEqual(list(inspect.signature(number_of).parameters), ["kind", "sizes", "thing"])

    def test_what_is_handed_in_stays(self):
        for kind in small_kinds()[::7]:
            for thing in all_things(kind, SIZES) + [("left", 9), (9, 9), "left", ()]:
                handed = (kind, tuple(SIZES), thing)
                before = copy.deepcopy(handed)
                is_thing(*handed)
                try:
                    thing_at(kind, handed[1], number_of(*handed))
                except NoThing:
                    self.no_number(kind, handed[1], count(kind, SIZES))
                self.assertEqual(handed, before)

    def test_nothing_hangs_on_what_was_asked_ahead(self):
        kind = either(A, both(B, D))
        for sizes in ((2, 3, 0, 2), (0, 3, 0, 2), (2, 3, 0, 1), (2, 3, 0, 2), EMPTY, (2, 3, 0, 2)):
            things = all_things(kind, sizes)
            self.assertEqual([thing_at(kind, sizes, n) for n in range(len(things))], things)
            self.assertEqual([number_of(kind, sizes, thing) for thing in things], list(range(len(things))))
            self.no_number(kind, sizes, len(things))


if __name__ == "__main__":
    unittest.main()
