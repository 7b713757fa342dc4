"""Point [1] over the whole program: what is handed in stays, and what is told is the asker's own."""

import copy
import unittest

from kindturn import judging, kinds, notes, plain, things, turnings
from kindturn.errors import KindError
from samples import A, B, C, D, NONE, ONE, all_things, both, either, great_kinds, random_kinds, small_kinds

SIZES = (2, 1, 0, 3)
KIND = both(either(B, A), either(ONE, C))
OTHER = both(either(C, ONE), either(A, B))
ROW = [("swap", ()), ("spread", ()), ("swap", (0,)), ("spread", (0,))]
THING = (("left", 0), ("right", 4))


def asked():
    """Every call of the interface, with what is handed in."""
    turning = ("swap", (1,))
    reached = turnings.carried(KIND, ROW, THING)
    return [
        (kinds.count, (KIND, SIZES)), (kinds.part, (KIND, (0, 1))), (kinds.part, (KIND, (0, 5))),
        (things.is_thing, (KIND, SIZES, THING)), (things.thing_at, (KIND, SIZES, 1)),
        (things.thing_at, (KIND, SIZES, 10 ** 9)), (things.number_of, (KIND, SIZES, (("left", 0), ("left", ())))),
        (things.number_of, (KIND, SIZES, "left")),
        (turnings.turned, (KIND, turning)), (turnings.forth, (KIND, turning, THING)),
        (turnings.back, (KIND, turning, (("left", 0), ("left", 4)))), (turnings.turned, (KIND, ("drop", ()))),
        (turnings.gone, (KIND, list(ROW))), (turnings.carried, (KIND, list(ROW), THING)),
        (turnings.brought, (KIND, list(ROW), reached)), (turnings.gone, (KIND, ROW + ROW)),
        (turnings.carried, (KIND, ROW + ROW, THING)), (turnings.brought, (KIND, ROW + ROW, reached)),
        (plain.bundles, (KIND,)), (plain.plain_of, ([(1,), (), (0, 3), (0, 3)],)), (plain.row_to_plain, (KIND,)),
        (judging.judged, (KIND, OTHER)), (judging.judged, (KIND, KIND)), (judging.judged, (KIND, A)),
        (judging.sent, (KIND, OTHER, THING)), (judging.sent, (KIND, A, THING)),
        (notes.written, (KIND,)), (notes.read, ("(a+(b*1))",)), (notes.read, ("(a+(b*1)",)),
    ]


def answer(call, handed):
    try:
        return call(*handed)
    except KindError as error:
        return type(error)


def lists_in(value):
    if not isinstance(value, (list, tuple)):
        return []
    found = [value] if isinstance(value, list) else []
    for inner in value:
        found += lists_in(inner)
    return found


def spoil(value):
    for found in lists_in(value):
        found.reverse()
        found.append("spoilt")
        found[:1] = ["spoilt", ("swap", (9,))]


class HandedIn(unittest.TestCase):
    def test_it_stays_as_it_was(self):
        for call, handed in asked():
            before = copy.deepcopy(handed)
            answer(call, handed)
            self.assertEqual(handed, before, call)

    def test_it_may_be_changed_later(self):
        for call, handed in asked():
            told = answer(call, handed)
            before = copy.deepcopy(told)
            fresh = copy.deepcopy(handed)
            spoil(handed)
            self.assertEqual(told, before, call)
            self.assertEqual(answer(call, fresh), before, call)

    def test_it_is_not_told_again(self):
        for call, handed in asked():
            told = lists_in(answer(call, handed))
            for given in lists_in(handed):
                self.assertFalse(any(found is given for found in told), call)


class Told(unittest.TestCase):
    def test_it_may_be_changed_and_nothing_hangs_on_it(self):
        for call, handed in asked():
            told = answer(call, handed)
            before = copy.deepcopy(told)
            spoil(told)
            self.assertEqual(answer(call, handed), before, call)

    def test_no_two_lists_of_it_are_one(self):
        for call, handed in asked():
            lists = lists_in(answer(call, handed)) + lists_in(answer(call, handed))
            self.assertEqual(len({id(found) for found in lists}), len(lists), call)

    def test_lists_that_hold_nothing_are_not_one_either(self):
        for kind in (NONE, ONE, A, both(A, B), either(A, B)):
            verdict = judging.judged(kind, kind)
            self.assertIsNot(verdict[1], verdict[2])
            rows = [plain.row_to_plain(kind), plain.row_to_plain(kind), verdict[1], verdict[2]]
            rows[0].append("spoilt")
            self.assertEqual(rows[1:], [[], [], []])
        empty = plain.bundles(NONE)
        empty.append(())
        self.assertEqual(plain.bundles(NONE), [])

    def test_asking_again_in_any_order_tells_the_same(self):
        first = [answer(call, handed) for call, handed in asked()]
        again = [answer(call, handed) for call, handed in reversed(asked())]
        self.assertEqual(first, again[::-1])


class Together(unittest.TestCase):
    def test_a_gone_kind_has_as_many_things_as_the_kind(self):
        sizes = (5, 3, 2, 4)
        for kind in small_kinds()[::5] + random_kinds(100, 20, seed=29) + great_kinds():
            row = plain.row_to_plain(kind)
            made = turnings.gone(kind, row)
            self.assertEqual(kinds.count(made, sizes), kinds.count(kind, sizes))
            self.assertEqual(plain.bundles(made), plain.bundles(kind))

    def test_numbers_of_carried_things_are_each_told_once(self):
        for kind in small_kinds()[::11] + [KIND, OTHER]:
            row = plain.row_to_plain(kind)
            made = turnings.gone(kind, row)
            reached = [turnings.carried(kind, row, thing) for thing in all_things(kind, SIZES)]
            numbers = [things.number_of(made, SIZES, thing) for thing in reached]
            self.assertEqual(sorted(numbers), list(range(kinds.count(kind, SIZES))))

    def test_great_kinds_are_asked_for_their_plain_things(self):
        sizes = (7, 5, 10 ** 6, 2)
        for kind in great_kinds():
            row, many = plain.row_to_plain(kind), kinds.count(kind, sizes)
            made = turnings.gone(kind, row)
            for number in ((0, many // 2, many - 1) if many else ()):
                thing = things.thing_at(made, sizes, number)
                origin = turnings.brought(kind, row, thing)
                self.assertIs(things.is_thing(kind, sizes, origin), True)
                self.assertEqual(turnings.carried(kind, row, origin), thing)
                self.assertEqual(things.number_of(made, sizes, thing), number)

    def test_what_is_read_is_judged_and_sent(self):
        one, other = notes.read("((a+b)*(c+1))"), notes.read("((b+(c*b))+((a*c)+a))")
        self.assertEqual(judging.judged(one, other)[0], "same")
        reached = judging.sent(one, other, (("left", 3), ("right", ())))
        self.assertEqual(reached, ("right", ("right", 3)))
        self.assertEqual(judging.sent(one, other, (("right", 3), ("left", 2))), ("left", ("right", (2, 3))))
        self.assertEqual(judging.judged(one, notes.read("((a+d)*(c+1))"))[0], "unlike")


if __name__ == "__main__":
    unittest.main()
