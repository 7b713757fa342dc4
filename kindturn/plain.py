"""Plain kinds: the bundles of a kind, and the row of turnings that leads to the plain kind of them."""


def bundles(kind):
    return sorted(gathered(kind))


def gathered(kind):
    word = kind[0]
    if word == "none":
        return []
    if word == "one":
        return [()]
    if word == "name":
        return [(kind[1],)]
    if word == "either":
        return gathered(kind[1]) + gathered(kind[2])
    # Beside a kind without a bundle there may be one of more bundles than could ever be told.
    if is_barren(kind):
        return []
    firsts = gathered(kind[1])
    seconds = gathered(kind[2])
    found = []
    for first in firsts:
        found.extend([tuple(sorted(first + second)) for second in seconds])
    return found


def is_barren(kind):
    """True where the kind has no bundle, told without telling the bundles."""
    word = kind[0]
    if word == "either":
        return is_barren(kind[1]) and is_barren(kind[2])
    if word == "both":
        return is_barren(kind[1]) or is_barren(kind[2])
    return word == "none"


def plain_of(bundles):
    if len(bundles) == 0:
        return ("none",)
    return chained("either", [plain_of_bundle(bundle) for bundle in bundles])


def plain_of_bundle(bundle):
    if len(bundle) == 0:
        return ("one",)
    return chained("both", [("name", name) for name in bundle])


def chained(word, kinds):
    made = kinds[-1]
    for kind in reversed(kinds[:-1]):
        made = (word, kind, made)
    return made


# The row is made in two goes. First each part, from the inner ones to the outer ones, becomes a tree:
# eithers of plain bundles, in any order. Then the eithers are put in line. In between, a tree stands for
# what the part has become: a bundle as a tuple, an either as a list of two trees, none as a list of no tree.
# So bundles are put in line just once, and all names are ahead of that turned at short paths.
def row_to_plain(kind):
    row = []
    tree = tree_of(kind, (), row)
    in_line(tree, (), row)
    return row


# Each def from here on adds to the row the turnings that make of the part at the path what it tells.
def tree_of(kind, path, row):
    word = kind[0]
    if word == "none":
        return []
    if word == "one":
        return ()
    if word == "name":
        return (kind[1],)
    if word == "both":
        return barren_tree(kind, path, row) if is_barren(kind) else product_tree(kind, path, row)
    first = tree_of(kind[1], path + (0,), row)
    second = tree_of(kind[2], path + (1,), row)
    if first == []:
        row.append(("drop", path))
        return second
    if second == []:
        row.append(("swap", path))
        row.append(("drop", path))
        return first
    return [first, second]


# Only the barren one of the two is turned: the other one may be too great, and is dropped as it is.
def barren_tree(kind, path, row):
    if is_barren(kind[1]):
        tree_of(kind[1], path + (0,), row)
    else:
        tree_of(kind[2], path + (1,), row)
        row.append(("swap", path))
    row.append(("drop", path))
    return []


# By the words of the kinds, eithers come ahead of names in the line, and the names are rising: so the
# names, at the line's end, are one bundle ahead of the first spread, and are not put together again
# in each of the many bundles behind it.
def product_tree(kind, path, row):
    factors = factors_in_line(kind, path, row)
    last = len(factors) - 1
    tree = tree_of(factors[last], path + (1,) * last, row)
    for place in range(last - 1, -1, -1):
        here = path + (1,) * place
        first = tree_of(factors[place], here + (0,), row)
        tree = both_of_trees(first, tree, here, row)
    return tree


def factors_in_line(kind, path, row):
    if kind[0] != "both":
        return [kind]
    firsts = factors_in_line(kind[1], path + (0,), row)
    seconds = factors_in_line(kind[2], path + (1,), row)
    return merged(firsts, seconds, path, row)


def both_of_trees(first, second, path, row):
    if isinstance(first, list):
        row.append(("swap", path))
        return spread_tree(second, first, path, row)
    if isinstance(second, list):
        return spread_tree(first, second, path, row)
    return tuple(merged(first, second, path, row))


def spread_tree(first, second, path, row):
    if first == ():
        row.append(("drop", path))
        return second
    row.append(("spread", path))
    left = both_of_trees(first, second[0], path + (0,), row)
    right = both_of_trees(first, second[1], path + (1,), row)
    return [left, right]


def in_line(tree, path, row):
    if isinstance(tree, tuple):
        return [tree]
    if tree == []:
        return []
    lefts = in_line(tree[0], path + (0,), row)
    rights = in_line(tree[1], path + (1,), row)
    return merged(lefts, rights, path, row)


# For eithers of bundles and for boths of names alike: each line is chained to the right and rising.
# The lesser head is brought to the left, and then grouped out of the way.
def merged(first, second, path, row):
    if len(first) == 0:
        row.append(("drop", path))
        return list(second)
    if len(second) == 0:
        row.append(("swap", path))
        row.append(("drop", path))
        return list(first)
    done = []
    lefts = list(first)
    rights = list(second)
    here = path
    while len(lefts) > 1 or rights[0] < lefts[0]:
        if rights[0] < lefts[0]:
            row.append(("swap", here))
            others = lefts
            lefts = rights
            rights = others
        else:
            row.append(("group", here))
            done.append(lefts.pop(0))
            here = here + (1,)
    return done + lefts + rights
