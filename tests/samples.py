"""Kinds and things for the tests, told straight from the document and not by the program."""

NONE = ("none",)
ONE = ("one",)
A, B, C, D = [("name", n) for n in range(4)]
LEAVES = [NONE, ONE, A, B, C, D]
MOST = 10 ** 6

# Neither a thing of most kinds nor something that Python compares with numbers without ado.
ODDITIES = [
    -1, 0, 1, 2, 3, 4, MOST, -MOST, 10 ** 5000, -(10 ** 5000),
    "", "left", "right", "none", "one", "name", "0", "ab", "()",
    (), ((),), ((), ()), ((), (), ()), (0,), (0, 0), (0, 0, 0), (1, 0), (0, 1), (-1, 0), (0, -1),
    ("left",), ("right",), ("left", 0), ("right", 0), ("left", 1), ("right", 1), ("left", -1),
    ("left", ()), ("right", ()), ("left", 0, 0), ("right", 0, 0), (0, "left"), ("Left", 0), ("", 0),
    (0, ("left", 0)), (("left", 0), 0), ("left", ("right", 0)), ("left", (0, 0)), ("left", "right"),
    (("left",), 0), ("a", "b"), ((0, 0), 0), (0, (0, 0)),
]


def either(k, l):
    return ("either", k, l)


def both(k, l):
    return ("both", k, l)


def all_things(kind, sizes):
    """Points [3] and [4]: every thing of a kind, in order."""
    if kind == NONE:
        return []
    if kind == ONE:
        return [()]
    if kind[0] == "name":
        return list(range(sizes[kind[1]]))
    first, second = all_things(kind[1], sizes), all_things(kind[2], sizes)
    if kind[0] == "either":
        return [("left", x) for x in first] + [("right", y) for y in second]
    return [(x, y) for x in first for y in second]


def kinds_of(parts):
    """Every kind of just so many parts."""
    if parts == 1:
        return list(LEAVES)
    return [
        (word, k, l)
        for word in ("either", "both")
        for first in range(1, parts - 1)
        for k in kinds_of(first)
        for l in kinds_of(parts - 1 - first)
    ]


def small_kinds():
    return kinds_of(1) + kinds_of(3) + kinds_of(5)


def leaning_right(word, kinds):
    """(word, k0, (word, k1, (.. kn)))"""
    made = kinds[-1]
    for kind in reversed(kinds[:-1]):
        made = (word, kind, made)
    return made


def leaning_left(word, kinds):
    """(word, (word, (k0 ..), kn-1), kn)"""
    made = kinds[0]
    for kind in kinds[1:]:
        made = (word, made, kind)
    return made


def mixed(leaves):
    """A kind of so many leaves, of all words, neither flat nor a straight line."""
    if leaves == 1:
        return B
    first = max(1, leaves // 3)
    word = "either" if leaves % 2 else "both"
    return (word, mixed(first), mixed(leaves - first))


def deep(levels):
    """A tuple deeper than Python writes or compares."""
    made = ()
    for _ in range(levels):
        made = (made, 0)
    return made
