"""Judging: whether two kinds are the same, and sending things from the one to the other."""

from kindturn.errors import Unlike
from kindturn.plain import bundles, row_to_plain
from kindturn.turnings import brought, carried

NAMES = (0, 1, 2, 3)


def judged(one, other):
    ones = bundles(one)
    others = bundles(other)
    if ones == others:
        return ("same", row_to_plain(one), row_to_plain(other))
    return ("unlike", parting_sizes(ones, others))


def sent(one, other, thing):
    if bundles(one) != bundles(other):
        raise Unlike("the two kinds have not the same bundles")
    return brought(other, row_to_plain(other), carried(one, row_to_plain(one), thing))


# How many things there are of a kind is a sum of products of sizes, one for each bundle. What the two
# sums differ by is not nought throughout, and has each size as a factor at most 20 times: so at most
# 20 sizes of a name make it nought throughout, and one from 0 to 20 does not, for each name in turn.
def parting_sizes(ones, others):
    terms = difference(ones, others)
    sizes = []
    for name in NAMES:
        size = 0
        left = with_size(terms, name, size)
        while len(left) == 0:
            size = size + 1
            left = with_size(terms, name, size)
        terms = left
        sizes.append(size)
    return tuple(sizes)


def difference(ones, others):
    """How many times more each bundle is among the first ones; below nought where it is so less often."""
    terms = {}
    for bundle in ones:
        terms[bundle] = terms.get(bundle, 0) + 1
    for bundle in others:
        terms[bundle] = terms.get(bundle, 0) - 1
    return without_noughts(terms)


def with_size(terms, name, size):
    made = {}
    for bundle, times in terms.items():
        rest = tuple([other for other in bundle if other != name])
        value = times
        for number in range(bundle.count(name)):
            value = value * size
        made[rest] = made.get(rest, 0) + value
    return without_noughts(made)


def without_noughts(terms):
    return dict([(bundle, times) for bundle, times in terms.items() if times != 0])
