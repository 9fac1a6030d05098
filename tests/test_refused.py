"""What is no tree, no way and no number of a part, and which refusal goes ahead."""

import unittest

from tests.makers import ODD_THINGS, WAYS, chain, chain_to, leaf, random_tree, read, seeded, star
from twigfinds.errors import NoPart, NoTree, NoWay
from twigfinds.findings import first_finding, is_finding, lies_at, places_of
from twigfinds.trees import above, children_at, is_tree, letter_at, part_at, size_of

AT_A_PART = (letter_at, part_at, above, children_at)
BAD_LETTERS = ("", "A", "Z", "ab", "aa", "1", " ", "(", "`", "{", "~", "\n", "\t", None, True, False, 1, 97, [],
               ["a"], ("a",), {"a": 1}, {}, b"a")
BAD_LISTS = ((), (("a", []),), None, "", "a", {}, {0: ("a", [])}, 0, 1, True, False, ("a", []), b"")
BAD_TREES = ODD_THINGS + (("a", [], []), ("a", [], None), ([], "a"), (["a"], []), [("a", [])], "a()", ("a", []) * 2,
                          (("a", []),), (("a", []), []), ("a", "b"))
BAD_WAYS = (True, False, None, 0, 1, "", "r", "ro", "rows", "Row", "ROW", " row", "row ", "far", "farows", "far row",
            "heap\n", "farheapp", b"row", ["row"], ("row",), {"row": 1}, {"row"}, [], {}, (), list(WAYS), WAYS,
            "row heap", object())
BAD_PARTS = (-1, -2, -40, -10 ** 25, 10 ** 25, True, False, None, "", "0", "1", [], [0], {}, {0: 0}, (), (0,), b"0",
             {0}, object())


def holders(bad):
    """Trees that hold something bad: at the top, among children, at the first, at the last, deep."""
    yield bad
    yield ("a", [bad])
    yield ("a", [leaf("b"), bad])
    yield ("a", [bad, leaf("b")])
    yield ("a", [read("b(cd)"), ("e", [leaf("f"), ("g", [bad]), leaf("h")]), leaf("i")])
    yield chain_to("a" * 19, bad)


def no_trees():
    for letter in BAD_LETTERS:
        yield from holders((letter, []))
        yield from holders((letter, [leaf("a")]))
    for children in BAD_LISTS:
        yield from holders(("a", children))
    for thing in BAD_TREES:
        yield from holders(thing)


class NoTrees(unittest.TestCase):
    def test_told_of_anything(self):
        for thing in no_trees():
            self.assertIs(is_tree(thing), False, thing)

    def test_all_letters_and_no_other_sign(self):
        for code in range(32, 127):
            small = chr(code) in "abcdefghijklmnopqrstuvwxyz"
            self.assertIs(is_tree((chr(code), [])), small)
            self.assertIs(is_tree(("a", [(chr(code), [])])), small)

    def test_bad_at_every_part(self):
        rng = seeded("bad at every part")
        for bad in (("a", ()), ("ab", []), None, ("a", [], [])):
            for size in (2, 7, 40):
                for k in range(size):
                    tree = random_tree(rng, size, "abc")
                    self.assertTrue(is_tree(tree))
                    nodes = [tree]
                    for node in nodes:
                        nodes.extend(node[1])
                    nodes[k][1].insert(rng.randint(0, len(nodes[k][1])), bad)
                    self.assertFalse(is_tree(tree))

    def test_refused_of_one_tree(self):
        for thing in no_trees():
            self.assertRaises(NoTree, size_of, thing)
            for function in AT_A_PART:
                self.assertRaises(NoTree, function, thing, 0)

    def test_refused_ahead_of_a_part(self):
        for thing in BAD_TREES:
            for part in BAD_PARTS:
                for function in AT_A_PART:
                    self.assertRaises(NoTree, function, thing, part)

    def test_refused_ahead_of_all_else(self):
        good = read("a(b)")
        for thing in BAD_TREES:
            for little, great in ((thing, good), (good, thing), (thing, thing)):
                for way in ("row", "farheap", "none", ["row"], None):
                    for part in (0, -1, None, "0"):
                        self.assertRaises(NoTree, lies_at, way, little, great, part)
                    self.assertRaises(NoTree, is_finding, way, little, great, [0, 1])
                    self.assertRaises(NoTree, is_finding, way, little, great, None)
                    self.assertRaises(NoTree, places_of, way, little, great)
                    self.assertRaises(NoTree, first_finding, way, little, great)

    def test_refused_of_little_and_great(self):
        good = read("a(b)")
        for thing in no_trees():
            for little, great in ((thing, good), (good, thing)):
                self.assertRaises(NoTree, is_finding, "row", little, great, [0, 1])
                self.assertRaises(NoTree, places_of, "heap", little, great)
                self.assertRaises(NoTree, lies_at, "farrow", little, great, 0)
                self.assertRaises(NoTree, first_finding, "farheap", little, great)


class NoWays(unittest.TestCase):
    def test_refused_of_anything(self):
        tree = read("a(b)")
        for way in BAD_WAYS:
            self.assertRaises(NoWay, is_finding, way, tree, tree, [0, 1])
            self.assertRaises(NoWay, places_of, way, tree, tree)
            self.assertRaises(NoWay, lies_at, way, tree, tree, 0)
            self.assertRaises(NoWay, first_finding, way, tree, tree)

    def test_refused_where_it_lies_nowhere(self):
        for way in BAD_WAYS:
            self.assertRaises(NoWay, is_finding, way, leaf("a"), leaf("b"), None)
            self.assertRaises(NoWay, places_of, way, leaf("a"), leaf("b"))
            self.assertRaises(NoWay, first_finding, way, leaf("a"), leaf("b"))

    def test_refused_ahead_of_a_part(self):
        tree = read("a(b)")
        for way in BAD_WAYS:
            for part in BAD_PARTS + (2, 3):
                self.assertRaises(NoWay, lies_at, way, tree, tree, part)


class NoParts(unittest.TestCase):
    def test_refused_of_a_tree(self):
        for tree in (leaf("a"), read("a(bc(d))"), star(40), chain("a" * 20)):
            size = size_of(tree)
            for part in BAD_PARTS + (size, size + 1, size + 40):
                for function in AT_A_PART:
                    self.assertRaises(NoPart, function, tree, part)

    def test_refused_of_where_it_lies(self):
        for little, great in ((leaf("a"), read("a(a)")), (star(7), star(40)), (read("a(bcd)"), leaf("a")),
                              (star(3, "b"), leaf("a"))):
            size = size_of(great)
            for part in BAD_PARTS + (size, size + 1, size + 40):
                for way in WAYS:
                    self.assertRaises(NoPart, lies_at, way, little, great, part)

    def test_parts_of_the_little_tree_do_not_count(self):
        self.assertRaises(NoPart, lies_at, "row", star(7), leaf("a"), 1)
        self.assertIs(lies_at("row", leaf("a"), star(7), 6), True)
