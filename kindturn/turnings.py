"""Turnings: what they make of kinds and of things, one by one and in rows."""

from kindturn.errors import NoTurning
from kindturn.kinds import parts_along

# The side of an either that a step of a path leads into.
SIDES = ("left", "right")


def turned(kind, turning):
    return kind_by(parts_to_turn(kind, turning), turning)


def forth(kind, turning, thing):
    return thing_by(parts_to_turn(kind, turning), turning, thing, forth_here)


def back(kind, turning, thing):
    return thing_by(parts_to_turn(kind, turning), turning, thing, back_here)


def gone(kind, row):
    made = kind
    for turning in row:
        made = turned(made, turning)
    return made


def carried(kind, row, thing):
    reached = kind
    made = thing
    for turning in row:
        parts = parts_to_turn(reached, turning)
        made = thing_by(parts, turning, made, forth_here)
        reached = kind_by(parts, turning)
    return made


def brought(kind, row, thing):
    trail = []
    reached = kind
    for turning in row:
        parts = parts_to_turn(reached, turning)
        trail.append(parts)
        reached = kind_by(parts, turning)
    made = thing
    for place in range(len(row) - 1, -1, -1):
        made = thing_by(trail[place], row[place], made, back_here)
    return made


# A turning is asked whether it goes ahead of any look at a thing: where it does not go it is
# refused, even if the thing is on the other side of an either.
def parts_to_turn(kind, turning):
    parts = parts_along(kind, turning[1])
    if not goes(turning[0], parts[-1]):
        raise NoTurning("this turning does not go at this part")
    return parts


def goes(word, found):
    head = found[0]
    if head not in ("either", "both"):
        return False
    first = found[1][0]
    if word == "swap":
        return True
    if word == "group":
        return first == head
    if word == "spread":
        return head == "both" and found[2][0] == "either"
    return word == "drop" and (first == "none" or (head == "both" and first == "one"))


# Both rebuild from the end of the path, by a loop: a row may reach kinds far deeper than its first one.
def kind_by(parts, turning):
    path = turning[1]
    made = kind_here(turning[0], parts[-1])
    for place in range(len(path) - 1, -1, -1):
        above = parts[place]
        made = (above[0], made, above[2]) if path[place] == 0 else (above[0], above[1], made)
    return made


def thing_by(parts, turning, thing, change):
    path = turning[1]
    things = things_along(parts, path, thing)
    if len(things) < len(parts):
        return thing
    made = change(turning[0], parts[-1], things[-1])
    for place in range(len(path) - 1, -1, -1):
        above = things[place]
        is_first_of_both = parts[place][0] == "both" and path[place] == 0
        made = (made, above[1]) if is_first_of_both else (above[0], made)
    return made


def things_along(parts, path, thing):
    """The thing and what is in it of each part along the path; ends early where it is on another side."""
    things = [thing]
    found = thing
    for place, step in enumerate(path):
        if parts[place][0] == "both":
            found = found[step]
        elif found[0] == SIDES[step]:
            found = found[1]
        else:
            return things
        things.append(found)
    return things


def kind_here(word, found):
    head = found[0]
    first = found[1]
    second = found[2]
    if word == "swap":
        return (head, second, first)
    if word == "group":
        return (head, first[1], (head, first[2], second))
    if word == "spread":
        return ("either", ("both", first, second[1]), ("both", first, second[2]))
    return first if head == "both" and first[0] == "none" else second


def forth_here(word, found, thing):
    is_both = found[0] == "both"
    if word == "swap":
        return swapped(is_both, thing)
    if word == "group":
        return grouped_pair(thing) if is_both else grouped_side(thing)
    if word == "spread":
        return crossed(thing)
    # What is left of ("right", x) and of ((), x) is x.
    return thing[1]


def back_here(word, found, thing):
    is_both = found[0] == "both"
    if word == "swap":
        return swapped(is_both, thing)
    if word == "group":
        return ungrouped_pair(thing) if is_both else ungrouped_side(thing)
    if word == "spread":
        return crossed(thing)
    return ((), thing) if is_both else ("right", thing)


def swapped(is_both, thing):
    if is_both:
        return (thing[1], thing[0])
    return ("right" if thing[0] == "left" else "left", thing[1])


# (x, (side, y)) and (side, (x, y)) become one another in the same way.
def crossed(thing):
    return (thing[1][0], (thing[0], thing[1][1]))


def grouped_pair(thing):
    return (thing[0][0], (thing[0][1], thing[1]))


def ungrouped_pair(thing):
    return ((thing[0], thing[1][0]), thing[1][1])


def grouped_side(thing):
    if thing[0] == "right":
        return ("right", thing)
    inner = thing[1]
    return inner if inner[0] == "left" else ("right", ("left", inner[1]))


def ungrouped_side(thing):
    if thing[0] == "left":
        return ("left", thing)
    inner = thing[1]
    return inner if inner[0] == "right" else ("left", ("right", inner[1]))
