"""Promise [12], and what [2] says of writings."""

import copy
import itertools
import re
import unittest

from tests.makers import (ALPHABET, ODD_THINGS, all_trees, chain, holds_a_list_of, leaf, random_tree, read, seeded,
                          share_a_list, shatter, star)
from tests.test_great import branched, broom, comb
from twigfinds.errors import NoText, NoTree, TwigError
from twigfinds.texts import read_tree, show_tree

SIGNS = [chr(code) for code in [9, 10] + list(range(32, 127)) if chr(code) != "%"]
NO_TEXTS = (True, False, None, 0, 1, 97, [], ["a"], ["a", "(", "b", ")"], {}, {"a": 1}, {"a"}, (), ("a",), ("a", []),
            [("a", [])], ("a", [("b", [])]), b"a", b"", b"a(b)", object(), 10 ** 25, -1)


def writes_a_tree(text):
    """Whether it writes one, by putting t for one writing with brackets after the other."""
    rest = re.sub("[a-z]", "x", text)
    shorter = re.sub(r"x\([xt]+\)", "t", rest)
    while shorter != rest:
        rest, shorter = shorter, re.sub(r"x\([xt]+\)", "t", shorter)
    return rest in ("x", "t")


def written(tree):
    """The words of [12]."""
    letter, children = tree
    if not children:
        return letter
    return letter + "(" + "".join(written(child) for child in children) + ")"


class Shown(unittest.TestCase):
    def test_by_hand(self):
        self.assertEqual(show_tree(("a", [])), "a")
        self.assertEqual(show_tree(("a", [("b", [])])), "a(b)")
        self.assertEqual(show_tree(("a", [("b", []), ("c", [("d", [])])])), "a(bc(d))")
        self.assertEqual(show_tree(("z", [("c", [("d", []), ("a", [])]), ("b", [])])), "z(c(da)b)")
        self.assertEqual(show_tree(star(5)), "a(aaaa)")
        self.assertEqual(show_tree(chain("abcd")), "a(b(c(d)))")

    def test_all_letters(self):
        for letter in ALPHABET:
            self.assertEqual(show_tree((letter, [])), letter)
            self.assertEqual(show_tree(("a", [(letter, [])])), f"a({letter})")

    def test_sign_by_sign(self):
        rng = seeded("sign by sign")
        for size in (1, 2, 3, 7, 20, 40):
            for turn in range(40):
                tree = random_tree(rng, size, ALPHABET)
                self.assertEqual(show_tree(tree), written(tree))

    def test_one_tree_at_several_places(self):
        twig = ("b", [leaf("c")])
        kids = [twig, twig]
        self.assertEqual(show_tree(("a", [("d", kids), twig, ("e", kids)])), "a(d(b(c)b(c))b(c)e(b(c)b(c)))")

    def test_handed_in_stays(self):
        tree = read("a(b(cd)e)")
        kept = copy.deepcopy(tree)
        self.assertEqual([show_tree(tree), show_tree(tree)], ["a(b(cd)e)"] * 2)
        self.assertEqual(tree, kept)
        tree[1].pop()
        self.assertEqual(show_tree(tree), "a(b(cd))")

    def test_no_trees(self):
        for thing in ODD_THINGS + (("A", []), ("ab", []), ("", []), ("a", ()), ("a", None), ("a", ["b"]), "a(b)",
                                   ("a", [("b", [("c", []), ("D", [])])]), ("a", [], []), ["a", []]):
            self.assertRaises(NoTree, show_tree, thing)
            self.assertRaises(NoTree, show_tree, ("a", [leaf("b"), ("c", [thing])]))


class ReadBack(unittest.TestCase):
    def test_by_hand(self):
        self.assertEqual(read_tree("a"), ("a", []))
        self.assertEqual(read_tree("a(b)"), ("a", [("b", [])]))
        self.assertEqual(read_tree("a(bc(d))"), ("a", [("b", []), ("c", [("d", [])])]))
        self.assertEqual(read_tree("z(c(da)b)"), ("z", [("c", [("d", []), ("a", [])]), ("b", [])]))
        self.assertEqual(read_tree("a(b(c)d(e))"), ("a", [("b", [("c", [])]), ("d", [("e", [])])]))

    def test_kinds(self):
        tree = read_tree("a(b(c)d)")
        self.assertEqual([type(tree), type(tree[0]), type(tree[1])], [tuple, str, list])
        self.assertEqual([type(child) for child in tree[1]], [tuple, tuple])
        self.assertIs(type(show_tree(tree)), str)

    def test_all_small_trees(self):
        for size in (1, 2, 3, 4, 5):
            for tree in all_trees(size, "ab"):
                self.assertEqual(read_tree(show_tree(tree)), tree)

    def test_by_chance(self):
        rng = seeded("read back by chance")
        for size in (1, 2, 3, 7, 20, 40):
            for turn in range(40):
                tree = random_tree(rng, size, ALPHABET)
                self.assertEqual(read_tree(written(tree)), tree)
                self.assertEqual(show_tree(read_tree(written(tree))), written(tree))

    def test_great(self):
        for tree in (star(40), comb(), broom(), branched(), chain("a" * 20), chain("a" * 46)):
            self.assertEqual(read_tree(show_tree(tree)), tree)

    def test_new_at_each_reading(self):
        text = "a(b(cc)b(cc)d)"
        told = [read_tree(text) for turn in range(3)]
        self.assertEqual(told[0], told[1])
        self.assertFalse(share_a_list(*told))
        shatter(told[0])
        self.assertEqual(read_tree(text), told[1])
        self.assertEqual(told[1], read(text))
        self.assertFalse(holds_a_list_of(read_tree(show_tree(told[1])), told[1]))


class NoTexts(unittest.TestCase):
    def refused(self, thing):
        with self.assertRaises(TwigError) as caught:
            read_tree(thing)
        self.assertIs(type(caught.exception), NoText, thing)

    def judged(self, text):
        if writes_a_tree(text):
            self.assertEqual(written(read_tree(text)), text)
        else:
            self.refused(text)

    def test_by_hand(self):
        for text in ("", " ", "\n", "\t", "()", "(a)", ")", "(", "a()", "a(b()", "a(b())", "a(())", "a((b))", "a(b",
                     "a(", "a)", "a(b))", "ab", "aa", "a(b)c", "a(b)(c)", "a(b)a(b)", "a b", " a", "a ", "a (b)",
                     "a( b)", "a(b )", "a(b) ", "a(b c)", "A", "a(B)", "A(b)", "a(b1)", "1", "a,b", "a(b,c)", "a[b]",
                     "a{b}", "a(b]", "a\n", "\na", "a(b)\n", "a\t(b)", "a(b\n)", "('a', [])", "a.", "-",
                     "~", "`", "a(b`)"):
            self.refused(text)

    def test_no_texts(self):
        for thing in NO_TEXTS + tuple(thing for thing in ODD_THINGS if thing != "a"):
            self.refused(thing)

    def test_every_short_text(self):
        """All of up to six signs, and just those are read that are some tree's writing."""
        writings = {written(tree): tree for size in range(1, 7) for tree in all_trees(size, "ab")}
        for size in range(7):
            for signs in itertools.product("ab() ", repeat=size):
                text = "".join(signs)
                if text in writings:
                    self.assertEqual(read_tree(text), writings[text])
                else:
                    self.refused(text)

    def test_every_sign(self):
        for sign in SIGNS:
            for text in ("{}", "a{}", "{}a", "a({})", "a(b{})", "a(b){}", "{}(a)", "a{}b)", "a(b{}", "a(b(c){}d)"):
                self.judged(text.replace("{}", sign))

    def test_a_sign_left_out_put_in_or_exchanged(self):
        rng = seeded("a sign left out")
        for size in (1, 2, 3, 5, 9, 20, 40):
            for turn in range(12):
                text = written(random_tree(rng, size, "abc"))
                for at in range(len(text)):
                    self.judged(text[:at] + text[at + 1:])
                    self.judged(text[:at] + text[at:at + 2][::-1] + text[at + 2:])
                    for sign in ("a", "(", ")", " ", rng.choice(SIGNS)):
                        self.judged(text[:at] + sign + text[at:])
                        self.judged(text[:at] + sign + text[at + 1:])
                for sign in ("a", "(", ")", " ", "()", "\n"):
                    self.judged(text + sign)

    def test_one_behind_the_other(self):
        rng = seeded("one behind the other")
        for turn in range(60):
            one, other = (written(random_tree(rng, rng.randint(1, 8), "ab")) for part in range(2))
            for between in ("", " ", "\n", "(", ")", ",", "()"):
                self.judged(one + between + other)
            self.refused(one + other)
            self.refused(f"({one})")

    def test_long_texts(self):
        for text in ("(" * 140, ")" * 140, "a" * 140, "a(" * 70, "a)" * 70, "()" * 70, " " * 140, "a(" * 46 + ")" * 46,
                     "a(" * 46 + "a" + ")" * 45, "a(" * 46 + "a" + ")" * 47, "a(" + "a" * 138, "a" * 138 + "()"):
            self.refused(text)

    def test_refused_again_and_the_next_one_read(self):
        for turn in range(2):
            self.refused("a(b")
            self.assertEqual(read_tree("a(b)"), read("a(b)"))
