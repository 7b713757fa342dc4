"""Things of a kind: telling them from others, and numbering them in their order."""

from kindturn.errors import NoNumber, NoThing
from kindturn.kinds import count


def is_thing(kind, sizes, thing):
    word = kind[0]
    if word == "none":
        return False
    if word == "one":
        return thing == ()
    if word == "name":
        return is_number_below(sizes[kind[1]], thing)
    if not isinstance(thing, tuple) or len(thing) != 2:
        return False
    if word == "both":
        return is_thing(kind[1], sizes, thing[0]) and is_thing(kind[2], sizes, thing[1])
    if thing[0] == "left":
        return is_thing(kind[1], sizes, thing[1])
    return thing[0] == "right" and is_thing(kind[2], sizes, thing[1])


def is_number_below(size, thing):
    # Python counts True and False among its whole numbers, the document does not.
    return isinstance(thing, int) and not isinstance(thing, bool) and 0 <= thing < size


# The words of the refusals below name no value: a number may be too long, and a thing too deep,
# to be written out.
def thing_at(kind, sizes, number):
    if number < 0 or number >= count(kind, sizes):
        raise NoNumber("no thing of this kind has this number")
    return numbered_thing(kind, sizes, number)


# Here the number is known to be some thing's, so the kind is not none and no count divided by is nought.
def numbered_thing(kind, sizes, number):
    word = kind[0]
    if word == "one":
        return ()
    if word == "name":
        return number
    if word == "both":
        seconds = count(kind[2], sizes)
        first = numbered_thing(kind[1], sizes, number // seconds)
        return (first, numbered_thing(kind[2], sizes, number % seconds))
    lefts = count(kind[1], sizes)
    if number < lefts:
        return ("left", numbered_thing(kind[1], sizes, number))
    return ("right", numbered_thing(kind[2], sizes, number - lefts))


def number_of(kind, sizes, thing):
    if not is_thing(kind, sizes, thing):
        raise NoThing("this is no thing of the kind")
    return number_of_thing(kind, sizes, thing)


# Here the thing is known to be one of the kind, so that it is not asked again at each part.
def number_of_thing(kind, sizes, thing):
    word = kind[0]
    if word == "one":
        return 0
    if word == "name":
        return thing
    if word == "both":
        first = number_of_thing(kind[1], sizes, thing[0])
        return first * count(kind[2], sizes) + number_of_thing(kind[2], sizes, thing[1])
    if thing[0] == "left":
        return number_of_thing(kind[1], sizes, thing[1])
    return count(kind[1], sizes) + number_of_thing(kind[2], sizes, thing[1])
