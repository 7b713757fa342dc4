"""Kinds written and read: point [11], and kindturn/notes.py of the interface."""

import inspect
import itertools
import re
import unittest

from kindturn import errors
from kindturn.errors import KindError, NotRead
from kindturn.notes import read, written
from samples import (
    A, B, C, D, NONE, ONE, both, either, great_kinds, leaning_left, leaning_right, parts_of, random_kinds, small_kinds,
)

OTHERS = (errors.NoTurning, errors.NoNumber, errors.NoThing, errors.Unlike)
SIGNS = [chr(number) for number in range(ord(" "), ord("~") + 1)]


def told_written(kind):
    """Point [11], word by word."""
    if len(kind) < 3:
        return {NONE: "0", ONE: "1", A: "a", B: "b", C: "c", D: "d"}[kind]
    sign = "+" if kind[0] == "either" else "*"
    return "(" + told_written(kind[1]) + sign + told_written(kind[2]) + ")"


def writes_a_kind(text):
    """Brackets of two kinds are taken for one sign, k, until there is none; so no k may be in the text."""
    if "k" in text:
        return False
    shorter = re.sub("[01abcd]", "k", text)
    while shorter != text:
        text, shorter = shorter, re.sub(r"\(k[+*]k\)", "k", shorter)
    return text == "k"


class Notes(unittest.TestCase):
    def refused(self, text):
        with self.assertRaises(NotRead) as caught:
            read(text)
        self.assertIsInstance(caught.exception, KindError)
        self.assertIsInstance(caught.exception, ValueError)
        for error in OTHERS:
            self.assertNotIsInstance(caught.exception, error)

    def read_rightly(self, text):
        if writes_a_kind(text):
            self.assertEqual(told_written(read(text)), text)
        else:
            self.refused(text)


class Written(Notes):
    def test_leaves(self):
        self.assertEqual([written(kind) for kind in (NONE, ONE, A, B, C, D)], ["0", "1", "a", "b", "c", "d"])

    def test_either_and_both(self):
        self.assertEqual(written(either(A, B)), "(a+b)")
        self.assertEqual(written(both(C, D)), "(c*d)")
        self.assertEqual(written(either(A, both(B, ONE))), "(a+(b*1))")
        self.assertEqual(written(both(either(NONE, C), D)), "((0+c)*d)")

    def test_what_is_written_is_read_to_the_same_kind(self):
        for kind in small_kinds() + great_kinds() + random_kinds(100, 50, seed=23):
            text = written(kind)
            self.assertEqual(text, told_written(kind))
            self.assertEqual(read(text), kind)


class Read(Notes):
    def test_texts_of_one_sign(self):
        told = {"0": NONE, "1": ONE, "a": A, "b": B, "c": C, "d": D}
        for sign in SIGNS:
            if sign in told:
                self.assertEqual(read(sign), told[sign])
            else:
                self.refused(sign)

    def test_the_empty_text(self):
        self.refused("")

    def test_the_texts_of_the_document(self):
        self.assertEqual(read("(a+(b*1))"), either(A, both(B, ONE)))

    def test_every_text_of_few_signs(self):
        for many in range(5):
            for signs in itertools.product("01ad+*() e", repeat=many):
                self.read_rightly("".join(signs))
        for signs in itertools.product("0b+*()", repeat=5):
            self.read_rightly("".join(signs))

    def test_blanks(self):
        for text in (" ", "  ", " a", "a ", "( a+b)", "(a +b)", "(a+ b)", "(a+b )", " (a+b)", "(a+b) ", "(a + b)"):
            self.refused(text)

    def test_brackets_missing_or_too_many(self):
        for text in ("a+b", "a*b", "(a+b", "a+b)", "((a+b)", "(a+b))", "((a+b))", "(a)", "((a))", "()", "(())", "(", ")",
                     ")(", "(a+b+c)", "(a+b*c)", "a+(b*c)", "(a+b)*c", "((a+b)+c", "(a+(b+c)", "(a+b)+(c+d)", "[a+b]"):
            self.refused(text)

    def test_signs_and_kinds_missing_or_too_many(self):
        for text in ("+", "*", "(+)", "(a+)", "(+a)", "(a++b)", "(a+*b)", "(ab)", "(a b)", "(a(b))", "((a+b)(c+d))",
                     "(a+b)+", "+(a+b)", "(a+bc)", "(ab+c)", "(a-b)", "(a/b)", "(a.b)", "(a,b)", "(a^b)", "(a=b)"):
            self.refused(text)

    def test_two_kinds_behind_one_another(self):
        for text in ("aa", "ab", "01", "a1", "10", "(a+b)c", "c(a+b)", "(a+b)(a+b)", "(a+b)(c*d)"):
            self.refused(text)

    def test_other_signs(self):
        for sign in SIGNS:
            for text in ("(" + sign + "+b)", "(a" + sign + "b)", "(a+" + sign + ")", sign + "a+b)", "(a+b" + sign,
                         sign + "(a+b)", "(a+b)" + sign):
                self.read_rightly(text)
        for text in ("A", "B", "e", "2", "z", "00", "none", "one", "either", "(A+b)", "(a+e)", "(2*a)", "~", "k", "(k+k)"):
            self.refused(text)

    def test_one_sign_more_less_or_other(self):
        for text in ("(a+(b*1))", "(((a*0)+(b+c))*(1+d))", "((((a+b)*c)+d)*0)"):
            self.assertTrue(writes_a_kind(text))
            for place in range(len(text) + 1):
                self.read_rightly(text[:place] + text[place + 1:])
                self.read_rightly(text[:place])
                self.read_rightly(text[place:])
                for sign in "01abcde+*() -":
                    self.read_rightly(text[:place] + sign + text[place:])
                    self.read_rightly(text[:place] + sign + text[place + 1:])


class LongTexts(Notes):
    def test_100_brackets_open_and_somewhat_more(self):
        for many in (99, 100, 101, 150):
            for leaning in (leaning_left, leaning_right):
                for word in ("either", "both"):
                    kind = leaning(word, ([A, ONE, D] * many)[:many + 1])
                    text = told_written(kind)
                    self.assertEqual(read(text), kind)
                    self.refused(text[:-1])
                    self.refused(text[1:])
                    self.refused(text + ")")
                    self.refused("(" + text)

    def test_about_1000_signs(self):
        wide = [either(both(A, B), C), both(ONE, NONE)] * 50
        for leaning in (leaning_left, leaning_right):
            kind = leaning("either", wide)
            text = told_written(kind)
            self.assertEqual((len(text), parts_of(kind)), (997, 499))
            self.assertEqual(read(text), kind)
            self.refused(text + "+a)")
            self.refused("(a+" + text)
            self.refused(text + text[:3])
            self.assertEqual(read("(a+" + text + ")"), either(A, kind))

    def test_1000_signs_that_write_no_kind(self):
        for text in ("(" * 1000, ")" * 1000, "a" * 1000, "+" * 1000, " " * 1000, "(a+" * 333 + "a", "(a" * 500,
                     "a+" * 500, "()" * 500, "(a+b)" * 200, "(" * 100 + "a" * 800 + ")" * 100,
                     "(" * 500 + ")" * 500, "(a+" * 249 + "a" + ")" * 248 + "(+a)"):
            self.assertTrue(999 <= len(text) <= 1000)
            self.refused(text)


class Interface(unittest.TestCase):
    def test_names_of_the_arguments(self):
        self.assertEqual(list(inspect.signature(written).parameters), ["kind"])
        self.assertEqual(list(inspect.signature(read).parameters), ["text"])


if __name__ == "__main__":
    unittest.main()
