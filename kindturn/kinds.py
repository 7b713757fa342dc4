"""Kinds: how many things they have, and the parts they are made of."""

from kindturn.errors import NoTurning


def count(kind, sizes):
    word = kind[0]
    if word == "none":
        return 0
    if word == "one":
        return 1
    if word == "name":
        return sizes[kind[1]]
    first = count(kind[1], sizes)
    second = count(kind[2], sizes)
    return first + second if word == "either" else first * second


def part(kind, path):
    return parts_along(kind, path)[-1]


def parts_along(kind, path):
    """The kind itself and each part that the path leads into, the one at its end last."""
    parts = [kind]
    found = kind
    for step in path:
        # A name holds a number where an either holds its first kind, and a step below nought would
        # count from the end: so both the word and the step are asked ahead of the index.
        if found[0] not in ("either", "both") or step not in (0, 1):
            raise NoTurning("there is no part at this path")
        found = found[1 + step]
        parts.append(found)
    return parts
