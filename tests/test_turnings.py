"""Turnings: points [5], [6] and [7], and kindturn/turnings.py of the interface."""

import inspect
import unittest

from kindturn import errors
from kindturn.errors import KindError, NoTurning
from kindturn.kinds import count, part
from kindturn.things import is_thing
from kindturn.turnings import back, brought, carried, forth, gone, turned
from samples import (
    A, B, C, D, MOST, NONE, ONE, TURNINGS, all_things, both, either, great_kinds, leaning_left, leaning_right,
    parts_of, paths_of, random_kinds, small_kinds, told_forth, told_turned,
)

SIZES = (2, 1, 0, 3)
OTHER_WORDS = ["", "Swap", "swap ", " swap", "SWAP", "swop", "ungroup", "join", "none", "either", "both", "left", "0"]
OTHERS = (errors.NotRead, errors.NoNumber, errors.NoThing, errors.Unlike)


class Turning(unittest.TestCase):
    def refused(self, call, *handed):
        with self.assertRaises(NoTurning) as caught:
            call(*handed)
        self.assertIsInstance(caught.exception, KindError)
        self.assertIsInstance(caught.exception, ValueError)
        for other in OTHERS:
            self.assertNotIsInstance(caught.exception, other)

    def does_not_go(self, kind, turning, thing=0):
        self.refused(turned, kind, turning)
        self.refused(forth, kind, turning, thing)
        self.refused(back, kind, turning, thing)
        self.refused(gone, kind, [turning])
        self.refused(carried, kind, [turning], thing)
        self.refused(brought, kind, [turning], thing)

    def becomes(self, kind, turning, made, things):
        """things: each thing of the kind by some sizes, and what it becomes."""
        self.assertEqual(turned(kind, turning), made)
        for thing, turned_thing in things.items():
            self.assertEqual(forth(kind, turning, thing), turned_thing)
            self.assertEqual(back(kind, turning, turned_thing), thing)


class EachLine(Turning):
    """The part at the path (), and the same part within other kinds."""

    def line(self, word, kind, made, things):
        self.becomes(kind, (word, ()), made, things)
        for head in ("either", "both"):
            for step in (0, 1):
                self.within(word, head, step, kind, made, things)
        deep_things = {("right", (7, thing)): ("right", (7, after)) for thing, after in things.items()}
        deep_things[("left", ())] = ("left", ())
        self.becomes(either(ONE, both(D, kind)), (word, (1, 1)), either(ONE, both(D, made)), deep_things)

    def within(self, word, head, step, kind, made, things):
        """Where the part is the first or the second of an either or both with the name c."""
        ahead = (head, kind, C) if step == 0 else (head, C, kind)
        behind = (head, made, C) if step == 0 else (head, C, made)
        if head == "both" and step == 0:
            pairs = {(thing, 5): (after, 5) for thing, after in things.items()}
        elif head == "both":
            pairs = {(5, thing): (5, after) for thing, after in things.items()}
        else:
            side, other = ("left", "right") if step == 0 else ("right", "left")
            pairs = {(side, thing): (side, after) for thing, after in things.items()}
            pairs[(other, 0)] = (other, 0)
            pairs[(other, 9)] = (other, 9)
        self.becomes(ahead, (word, (step,)), behind, pairs)

    def test_swap_of_either(self):
        self.line("swap", either(A, both(A, B)), either(both(A, B), A), {
            ("left", 4): ("right", 4), ("right", (1, 2)): ("left", (1, 2)),
        })
        self.line("swap", either(A, A), either(A, A), {("left", 0): ("right", 0), ("right", 0): ("left", 0)})
        self.line("swap", either(NONE, ONE), either(ONE, NONE), {("right", ()): ("left", ())})

    def test_swap_of_both(self):
        self.line("swap", both(A, either(B, ONE)), both(either(B, ONE), A), {
            (1, ("left", 2)): (("left", 2), 1), (0, ("right", ())): (("right", ()), 0),
        })
        self.line("swap", both(A, A), both(A, A), {(0, 1): (1, 0), (1, 0): (0, 1), (1, 1): (1, 1)})
        self.line("swap", both(NONE, A), both(A, NONE), {})

    def test_group_of_either(self):
        self.line("group", either(either(A, B), C), either(A, either(B, C)), {
            ("left", ("left", 1)): ("left", 1),
            ("left", ("right", 1)): ("right", ("left", 1)),
            ("right", 1): ("right", ("right", 1)),
        })
        inner = either(either(A, B), either(C, D))
        self.line("group", inner, either(A, either(B, either(C, D))), {
            ("left", ("left", 1)): ("left", 1),
            ("left", ("right", 1)): ("right", ("left", 1)),
            ("right", ("left", 1)): ("right", ("right", ("left", 1))),
            ("right", ("right", 1)): ("right", ("right", ("right", 1))),
        })

    def test_group_of_both(self):
        self.line("group", both(both(A, B), C), both(A, both(B, C)), {((1, 2), 3): (1, (2, 3))})
        self.line("group", both(both(A, either(B, C)), both(C, D)), both(A, both(either(B, C), both(C, D))), {
            ((1, ("left", 2)), (3, 4)): (1, (("left", 2), (3, 4))),
            ((1, ("right", 2)), (3, 4)): (1, (("right", 2), (3, 4))),
        })

    def test_spread(self):
        self.line("spread", both(A, either(B, C)), either(both(A, B), both(A, C)), {
            (1, ("left", 2)): ("left", (1, 2)), (1, ("right", 2)): ("right", (1, 2)),
        })
        pair = either(A, B)
        self.line("spread", both(pair, either(ONE, pair)), either(both(pair, ONE), both(pair, pair)), {
            (("right", 1), ("left", ())): ("left", (("right", 1), ())),
            (("left", 1), ("right", ("left", 2))): ("right", (("left", 1), ("left", 2))),
        })
        self.line("spread", both(NONE, either(A, B)), either(both(NONE, A), both(NONE, B)), {})

    def test_drop_of_either(self):
        self.line("drop", either(NONE, A), A, {("right", 3): 3})
        self.line("drop", either(NONE, either(A, B)), either(A, B), {
            ("right", ("left", 1)): ("left", 1), ("right", ("right", 1)): ("right", 1),
        })
        self.line("drop", either(NONE, NONE), NONE, {})
        self.line("drop", either(NONE, ONE), ONE, {("right", ()): ()})

    def test_drop_of_both_with_one(self):
        self.line("drop", both(ONE, A), A, {((), 3): 3})
        self.line("drop", both(ONE, ONE), ONE, {((), ()): ()})
        self.line("drop", both(ONE, both(A, B)), both(A, B), {((), (1, 2)): (1, 2)})
        self.line("drop", both(ONE, NONE), NONE, {})

    def test_drop_of_both_with_none(self):
        for kind in (A, ONE, NONE, either(A, B), both(A, B)):
            self.line("drop", both(NONE, kind), NONE, {})


class NotGoing(Turning):
    def test_leaves_are_not_turned(self):
        for leaf in (NONE, ONE, A, B, C, D):
            for word in TURNINGS:
                self.does_not_go(leaf, (word, ()))
                self.does_not_go(either(leaf, ONE), (word, (0,)), ("right", ()))

    def test_group_asks_for_the_same_word_twice_on_the_first_side(self):
        for kind in (
            either(A, B), both(A, B), either(both(A, B), C), both(either(A, B), C), either(A, either(B, C)),
            both(A, both(B, C)), either(both(A, B), either(C, D)), both(either(A, B), both(C, D)),
        ):
            self.does_not_go(kind, ("group", ()))

    def test_spread_asks_for_an_either_in_the_second_place_of_a_both(self):
        for kind in (
            either(A, B), both(A, B), both(either(A, B), C), either(A, either(B, C)), both(A, both(B, C)),
            either(A, both(B, C)), both(either(A, B), both(C, either(A, B))), both(A, NONE),
        ):
            self.does_not_go(kind, ("spread", ()))

    def test_drop_asks_for_none_or_one_in_the_first_place(self):
        for kind in (
            either(ONE, A), either(A, NONE), both(A, ONE), both(A, NONE), either(A, B), both(A, B),
            either(either(NONE, A), B), both(both(ONE, A), B), either(both(NONE, A), B), both(either(NONE, ONE), A),
            either(both(ONE, A), NONE), either(ONE, NONE), both(A, both(NONE, B)),
        ):
            self.does_not_go(kind, ("drop", ()))

    def test_other_words(self):
        for kind in (NONE, ONE, A, either(NONE, A), both(both(ONE, A), either(A, B)), either(either(A, B), C)):
            for word in OTHER_WORDS:
                for path in ((), (0,), (1,)):
                    self.does_not_go(kind, (word, path))

    def test_paths_that_there_are_not(self):
        kind = either(both(ONE, A), both(A, either(NONE, B)))
        for word in TURNINGS + ["other"]:
            for path in ((2,), (-1,), (-2,), (-3,), (3,), (10 ** 30,), (0, 0, 0), (0, 1, 1), (1, 1, 0, 0), (1, 0, 1),
                         (0, 2), (1, -1), (2, 0), (-1, 0), (1, 1, -1), (0,) * 3000):
                self.does_not_go(kind, (word, path), ("left", ((), 0)))

    def test_refused_also_for_a_thing_on_the_other_side(self):
        kind = either(A, both(B, C))
        for turning in (("group", (1,)), ("spread", (1,)), ("drop", (1,)), ("swap", (1, 0)), ("swap", (1, 0, 0)),
                        ("turn", (1,)), ("swap", (1, 2))):
            self.does_not_go(kind, turning, ("left", 0))


class Throughout(Turning):
    def agrees(self, kind, turning):
        made = told_turned(kind, turning)
        if made is None:
            self.refused(turned, kind, turning)
            self.refused(forth, kind, turning, ())
            self.refused(back, kind, turning, ())
            return 0
        self.assertEqual(turned(kind, turning), made)
        self.assertEqual(count(made, SIZES), count(kind, SIZES))
        things = all_things(kind, SIZES)
        reached = [forth(kind, turning, thing) for thing in things]
        self.assertEqual(reached, [told_forth(kind, turning, thing) for thing in things])
        self.assertEqual(sorted(map(repr, reached)), sorted(map(repr, all_things(made, SIZES))))
        self.assertEqual([back(kind, turning, thing) for thing in reached], things)
        return 1

    def test_every_turning_of_small_kinds(self):
        went = 0
        for kind in small_kinds():
            for path in paths_of(kind) + [(2,), (0, -1)]:
                for word in TURNINGS:
                    went += self.agrees(kind, (word, path))
        self.assertGreater(went, 4000)

    def test_every_turning_of_greater_kinds(self):
        went = 0
        for kind in random_kinds(150, 8):
            if count(kind, SIZES) < 400:
                for path in paths_of(kind):
                    for word in TURNINGS:
                        went += self.agrees(kind, (word, path))
        self.assertGreater(went, 700)

    def test_every_turning_that_goes_in_kinds_at_the_bounds(self):
        sizes = (3, 2, 4, 1)
        for kind in great_kinds():
            for path in paths_of(kind):
                for word in TURNINGS:
                    made = told_turned(kind, (word, path))
                    if made is None:
                        self.refused(turned, kind, (word, path))
                    else:
                        self.assertEqual(turned(kind, (word, path)), made)
                        self.assertEqual(count(made, sizes), count(kind, sizes))

    def test_deep_paths(self):
        for many in (50, 60, 200):
            kind = leaning_right("both", [A] * many)
            thing = leaning_pair(range(many))
            path = (1,) * (many - 2)
            made = leaning_pair(list(range(many - 2)) + [many - 1, many - 2])
            self.becomes(kind, ("swap", path), kind, {thing: made})
            kind = leaning_left("either", [ONE, B] + [A] * (many - 2))
            path = (0,) * (many - 2)
            left, right = leaning_side(many - 2, ("left", ())), leaning_side(many - 2, ("right", 3))
            self.becomes(kind, ("swap", path), leaning_left("either", [B, ONE] + [A] * (many - 2)), {
                left: leaning_side(many - 2, ("right", ())), right: leaning_side(many - 2, ("left", 3)),
                ("right", 1): ("right", 1), ("left", ("right", 1)): ("left", ("right", 1)),
            })

    def test_things_by_great_sizes(self):
        kind = both(both(A, B), either(C, D))
        last = MOST - 1
        self.becomes(kind, ("group", ()), both(A, both(B, either(C, D))), {
            ((last, 0), ("right", last)): (last, (0, ("right", last))),
        })


def leaning_pair(things):
    made = None
    for thing in reversed(things):
        made = thing if made is None else (thing, made)
    return made


def leaning_side(many, thing):
    for _ in range(many):
        thing = ("left", thing)
    return thing


class Rows(Turning):
    kind = both(either(A, ONE), either(B, C))
    row = [("spread", ()), ("swap", (0,)), ("spread", (0,)), ("swap", (0, 1)), ("drop", (0, 1)), ("group", ())]
    made = either(both(B, A), either(B, both(either(A, ONE), C)))

    def test_the_empty_row_leaves_all_as_it_is(self):
        for kind in small_kinds():
            self.assertEqual(gone(kind, []), kind)
            for thing in all_things(kind, SIZES):
                self.assertEqual(carried(kind, [], thing), thing)
                self.assertEqual(brought(kind, [], thing), thing)

    def test_each_goes_in_the_kind_that_the_ones_ahead_made(self):
        self.assertEqual(gone(self.kind, self.row), self.made)
        told = {
            (("left", 1), ("left", 2)): ("left", (2, 1)),
            (("right", ()), ("left", 2)): ("right", ("left", 2)),
            (("left", 1), ("right", 2)): ("right", ("right", (("left", 1), 2))),
            (("right", ()), ("right", 2)): ("right", ("right", (("right", ()), 2))),
        }
        for thing, reached in told.items():
            self.assertEqual(carried(self.kind, self.row, thing), reached)
            self.assertEqual(brought(self.kind, self.row, reached), thing)

    def test_each_row_is_its_turnings_one_by_one(self):
        for end in range(len(self.row) + 1):
            row = self.row[:end]
            made, things = self.kind, all_things(self.kind, (2, 3, 1, 0))
            reached = list(things)
            for turning in row:
                reached = [forth(made, turning, thing) for thing in reached]
                made = turned(made, turning)
            self.assertEqual(gone(self.kind, row), made)
            self.assertEqual([carried(self.kind, row, thing) for thing in things], reached)
            self.assertEqual([brought(self.kind, row, thing) for thing in reached], things)
            self.assertTrue(all(is_thing(made, (2, 3, 1, 0), thing) for thing in reached))

    def test_a_row_that_takes_the_same_turning_again(self):
        kind = leaning_left("either", [A, B, C, D])
        row = [("group", ()), ("group", ())]
        self.assertEqual(gone(kind, row), leaning_right("either", [A, B, C, D]))
        self.assertEqual(carried(kind, row, ("left", ("right", 5))), ("right", ("right", ("left", 5))))
        self.assertEqual(brought(kind, row, ("right", ("right", ("left", 5)))), ("left", ("right", 5)))
        swaps = [("swap", ())] * 501
        self.assertEqual(gone(both(A, B), swaps), both(B, A))
        self.assertEqual(carried(both(A, B), swaps, (1, 2)), (2, 1))
        self.assertEqual(brought(both(A, B), swaps, (2, 1)), (1, 2))

    def test_one_turning_that_does_not_go(self):
        thing = (("left", 0), ("left", 0))
        for place in range(len(self.row) + 1):
            for wrong in (("swop", ()), ("group", (0, 0)), ("swap", (0, 0, 0, 0, 0)), ("swap", (2,)), ("drop", ())):
                row = self.row[:place] + [wrong] + self.row[place:]
                self.refused(gone, self.kind, row)
                self.refused(carried, self.kind, row, thing)
                self.refused(brought, self.kind, row, thing)

    def test_a_turning_that_goes_only_ahead_of_the_others(self):
        row = [("swap", ()), ("spread", ())]
        kind = both(A, either(B, C))
        self.refused(gone, kind, row)
        self.refused(carried, kind, row, (0, ("left", 0)))
        self.refused(brought, kind, row, (0, ("left", 0)))
        self.assertEqual(gone(kind, row[1:] + row[:1]), either(both(A, C), both(A, B)))

    def test_a_long_row_into_a_deep_kind(self):
        kind = leaning_left("either", [A, B, C, D] * 60)
        row = [("group", ())] * 238 + [("swap", (1,) * place) for place in range(200, -1, -1)]
        made = gone(kind, row)
        self.assertEqual(parts_of(made), parts_of(kind))
        for number in (0, 7):
            thing = leaning_side(100, ("right", number))
            reached = carried(kind, row, thing)
            self.assertEqual(brought(kind, row, reached), thing)
            self.assertEqual(part(made, path_of(reached)), part(kind, path_of(thing)))


def path_of(thing):
    """The path to the name whose number is in a thing of nothing but eithers."""
    path = ()
    while isinstance(thing, tuple):
        path += (("left", "right").index(thing[0]),)
        thing = thing[1]
    return path


class Interface(unittest.TestCase):
    def test_names_of_the_arguments(self):
        for call, names in (
            (turned, ["kind", "turning"]), (forth, ["kind", "turning", "thing"]), (back, ["kind", "turning", "thing"]),
            (gone, ["kind", "row"]), (carried, ["kind", "row", "thing"]), (brought, ["kind", "row", "thing"]),
        ):
            self.assertEqual(list(inspect.signature(call).parameters), names)


if __name__ == "__main__":
    unittest.main()
