"""Kinds, things, turnings and bundles for the tests, told straight from the document and not by the program."""

import random
from collections import Counter

TURNINGS = ["swap", "group", "spread", "drop"]

NONE = ("none",)
ONE = ("one",)
A, B, C, D = [("name", n) for n in range(4)]
LEAVES = [NONE, ONE, A, B, C, D]
MOST = 10 ** 6

# Neither a thing of most kinds nor something that Python compares with numbers without ado.
ODDITIES = [
    -1, 0, 1, 2, 3, 4, MOST, -MOST, 10 ** 5000, -(10 ** 5000),
    "", "left", "right", "none", "one", "name", "0", "ab", "()",
    (), ((),), ((), ()), ((), (), ()), (0,), (0, 0), (0, 0, 0), (1, 0), (0, 1), (-1, 0), (0, -1),
    ("left",), ("right",), ("left", 0), ("right", 0), ("left", 1), ("right", 1), ("left", -1),
    ("left", ()), ("right", ()), ("left", 0, 0), ("right", 0, 0), (0, "left"), ("Left", 0), ("", 0),
    (0, ("left", 0)), (("left", 0), 0), ("left", ("right", 0)), ("left", (0, 0)), ("left", "right"),
    (("left",), 0), ("a", "b"), ((0, 0), 0), (0, (0, 0)),
]


def either(k, l):
    return ("either", k, l)


def both(k, l):
    return ("both", k, l)


def all_things(kind, sizes):
    """Points [3] and [4]: every thing of a kind, in order."""
    if kind == NONE:
        return []
    if kind == ONE:
        return [()]
    if kind[0] == "name":
        return list(range(sizes[kind[1]]))
    first, second = all_things(kind[1], sizes), all_things(kind[2], sizes)
    if kind[0] == "either":
        return [("left", x) for x in first] + [("right", y) for y in second]
    return [(x, y) for x in first for y in second]


def kinds_of(parts):
    """Every kind of just so many parts."""
    if parts == 1:
        return list(LEAVES)
    return [
        (word, k, l)
        for word in ("either", "both")
        for first in range(1, parts - 1)
        for k in kinds_of(first)
        for l in kinds_of(parts - 1 - first)
    ]


def small_kinds():
    return kinds_of(1) + kinds_of(3) + kinds_of(5)


def leaning_right(word, kinds):
    """(word, k0, (word, k1, (.. kn)))"""
    made = kinds[-1]
    for kind in reversed(kinds[:-1]):
        made = (word, kind, made)
    return made


def leaning_left(word, kinds):
    """(word, (word, (k0 ..), kn-1), kn)"""
    made = kinds[0]
    for kind in kinds[1:]:
        made = (word, made, kind)
    return made


def mixed(leaves):
    """A kind of so many leaves, of all words, neither flat nor a straight line."""
    if leaves == 1:
        return B
    first = max(1, leaves // 3)
    word = "either" if leaves % 2 else "both"
    return (word, mixed(first), mixed(leaves - first))


def deep(levels):
    """A tuple deeper than Python writes or compares."""
    made = ()
    for _ in range(levels):
        made = (made, 0)
    return made


def parts_of(kind):
    """Point [2]: how many parts a kind has."""
    return 1 if len(kind) < 3 else 1 + parts_of(kind[1]) + parts_of(kind[2])


def paths_of(kind):
    """Point [5]: the path of every part."""
    if len(kind) < 3:
        return [()]
    return [()] + [(step,) + path for step in (0, 1) for path in paths_of(kind[1 + step])]


def told_kind(word, kind):
    """Point [6], line by line: what a turning makes of the part at its path, None where it does not go."""
    match word, kind:
        case "swap", (("either" | "both") as head, k, l):
            return (head, l, k)
        case "group", ("either", ("either", k, l), m):
            return either(k, either(l, m))
        case "group", ("both", ("both", k, l), m):
            return both(k, both(l, m))
        case "spread", ("both", k, ("either", l, m)):
            return either(both(k, l), both(k, m))
        case "drop", ("either", ("none",), k):
            return k
        case "drop", ("both", ("one",), k):
            return k
        case "drop", ("both", ("none",), k):
            return NONE
    return None


def told_thing(word, head, thing):
    """Point [6], line by line: what a turning makes of a thing of an either or both."""
    match word, head, thing:
        case "swap", "either", ("left", x):
            return ("right", x)
        case "swap", "either", ("right", x):
            return ("left", x)
        case "swap", "both", (x, y):
            return (y, x)
        case "group", "either", ("left", ("left", x)):
            return ("left", x)
        case "group", "either", ("left", ("right", y)):
            return ("right", ("left", y))
        case "group", "either", ("right", z):
            return ("right", ("right", z))
        case "group", "both", ((x, y), z):
            return (x, (y, z))
        case "spread", "both", (x, ("left", y)):
            return ("left", (x, y))
        case "spread", "both", (x, ("right", z)):
            return ("right", (x, z))
        case "drop", "either", ("right", x):
            return x
        case "drop", "both", ((), x):
            return x
    raise AssertionError((word, head, thing))


def told_turned(kind, turning):
    """Points [5] and [6]: the turned kind, None where the turning does not go or there is no such path."""
    word, path = turning
    if path == ():
        return told_kind(word, kind)
    if len(kind) < 3 or path[0] not in (0, 1):
        return None
    within = told_turned(kind[1 + path[0]], (word, path[1:]))
    if within is None:
        return None
    return (kind[0], within, kind[2]) if path[0] == 0 else (kind[0], kind[1], within)


def told_forth(kind, turning, thing):
    """Points [5] and [6]: the turned thing, for a turning that goes."""
    word, path = turning
    if path == ():
        return told_thing(word, kind[0], thing)
    within = (word, path[1:])
    if kind[0] == "both":
        x, y = thing
        if path[0] == 0:
            return (told_forth(kind[1], within, x), y)
        return (x, told_forth(kind[2], within, y))
    side, x = thing
    if side != ("left", "right")[path[0]]:
        return thing
    return (side, told_forth(kind[1 + path[0]], within, x))


def told_gone(kind, row):
    for turning in row:
        kind = told_turned(kind, turning)
    return kind


def told_counter(kind):
    """Point [8]: how often each bundle is there."""
    if kind == NONE:
        return Counter()
    if kind == ONE:
        return Counter([()])
    if kind[0] == "name":
        return Counter([(kind[1],)])
    if kind[0] == "either":
        return told_counter(kind[1]) + told_counter(kind[2])
    first = told_counter(kind[1])
    second = told_counter(kind[2]) if first else Counter()
    made = Counter()
    for x, many in first.items():
        for y, more in second.items():
            made[tuple(sorted(x + y))] += many * more
    return made


def told_bundles(kind):
    return sorted(told_counter(kind).elements())


def told_plain_bundle(bundle):
    """Point [9], word by word."""
    if bundle == ():
        return ONE
    if len(bundle) == 1:
        return ("name", bundle[0])
    return both(("name", bundle[0]), told_plain_bundle(bundle[1:]))


def told_plain(bundles):
    """Point [9], word by word."""
    if not bundles:
        return NONE
    if len(bundles) == 1:
        return told_plain_bundle(bundles[0])
    return either(told_plain_bundle(bundles[0]), told_plain(bundles[1:]))


def random_kind(chance, leaves):
    if leaves == 1:
        return chance.choice([A, B, C, D, A, B, C, D, ONE, NONE])
    first = chance.choice([1, leaves - 1, chance.randint(1, leaves - 1)])
    word = chance.choice(["either", "both"])
    return (word, random_kind(chance, first), random_kind(chance, leaves - first))


def random_kinds(many, leaves, seed=7):
    """The same kinds at each run, of at most so many leaves, 200 bundles and 20 names in a bundle."""
    chance = random.Random(seed)
    made = []
    while len(made) < many:
        kind = random_kind(chance, chance.randint(2, leaves))
        most_bundles, most_names = bounds(kind)
        if most_bundles <= 200 and most_names <= 20:
            made.append(kind)
    return made


def bounds(kind):
    """How many bundles a kind has, and how many names are in its longest one, without telling the bundles."""
    if len(kind) < 3:
        return (0, 0) if kind == NONE else (1, len(kind) - 1)
    first, second = bounds(kind[1]), bounds(kind[2])
    if kind[0] == "either":
        return first[0] + second[0], max(first[1], second[1])
    if first[0] == 0 or second[0] == 0:
        return (0, 0)
    return first[0] * second[0], first[1] + second[1]


def great_kinds():
    """Kinds at the bounds of point [2], and a few somewhat beyond."""
    names = [D, B, C, A] * 5
    two = either(B, A)
    doubled = [either(ONE, ONE)] * 7
    vast = leaning_left("both", [either(A, B)] * 24)
    made = [
        leaning_left("both", [D, C, B, A, ONE] * 5), leaning_right("either", [D, C, B, A, ONE] * 10),
        leaning_left("either", [D, C, NONE, A, ONE] * 10), leaning_right("both", [ONE] * 50),
        leaning_left("both", [ONE] * 50), leaning_left("either", [NONE] * 50),
        leaning_left("both", [two] * 7 + names[:13]), leaning_right("both", names[:13] + [two] * 7),
        leaning_left("both", doubled + names), leaning_right("both", names + doubled),
        both(leaning_left("either", [D, C, B, A, ONE] * 2), leaning_right("either", names)),
        both(leaning_left("both", names[:18]), both(leaning_left("either", names[:14]),
                                                    leaning_right("either", names[3:17]))),
        both(vast, NONE), both(NONE, vast), either(A, both(vast, either(NONE, NONE))),
        both(both(A, either(NONE, both(NONE, B))), vast), either(both(NONE, vast), both(vast, NONE)),
    ]
    layered = leaning_right("both", doubled)
    for _ in range(16):
        layered = either(both(layered, D), A)
    return made + [layered] + random_kinds(20, 50)
