"""Notes: kinds written as texts, and read again."""

from kindturn.errors import NotRead

NAMES = "abcd"
LEAVES = {
    "0": ("none",), "1": ("one",),
    "a": ("name", 0), "b": ("name", 1), "c": ("name", 2), "d": ("name", 3),
}
WORDS = {"+": "either", "*": "both"}


def written(kind):
    word = kind[0]
    if word == "none":
        return "0"
    if word == "one":
        return "1"
    if word == "name":
        return NAMES[kind[1]]
    first = written(kind[1])
    second = written(kind[2])
    return f"({first}+{second})" if word == "either" else f"({first}*{second})"


# What has been read stands in a line: kinds as tuples, signs as they are. A closing bracket makes one
# kind of what stands behind its opening one, so that brackets may be within one another however deep.
def read(text):
    line = []
    for sign in text:
        if sign in LEAVES:
            line.append(LEAVES[sign])
        elif sign == ")":
            close_bracket(line)
        else:
            line.append(sign)
    if len(line) != 1 or not isinstance(line[0], tuple):
        raise NotRead("this text writes no kind")
    return line[0]


def close_bracket(line):
    if len(line) < 4 or not is_bracket(line[-4:]):
        raise NotRead("a bracket closes what is no two kinds with a sign between")
    second = line.pop()
    sign = line.pop()
    first = line.pop()
    line.pop()
    line.append((WORDS[sign], first, second))


def is_bracket(signs):
    if signs[0] != "(" or signs[2] not in ("+", "*"):
        return False
    return isinstance(signs[1], tuple) and isinstance(signs[3], tuple)
