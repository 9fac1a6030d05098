"""What is no tree, no way and no number of a part, and which refusal goes ahead."""

import unittest

from tests.makers import ODD_THINGS, REFUSALS, WAYS, chain, chain_to, leaf, random_tree, read, seeded, star
from twigfinds.common import common_size, common_tree
from twigfinds.counted import all_findings, count_at, count_findings, finding_by, number_of
from twigfinds.errors import NoFinding, NoNumber, NoPart, NoTree, NoWay, TooMany, TwigError
from twigfinds.findings import first_finding, is_finding, lies_at, places_of
from twigfinds.pairings import nowhere_paper, nowhere_shows
from twigfinds.texts import show_tree
from twigfinds.trees import above, children_at, is_tree, letter_at, part_at, size_of
from twigfinds.watch import Watch

AT_A_PART = (letter_at, part_at, above, children_at)
# What is asked of a way and two trees, alone or with a thing behind them.
OF_TWO = (places_of, first_finding, count_findings, all_findings, common_tree, common_size, Watch)
OF_TWO_AND_ONE_MORE = (is_finding, lies_at, count_at, finding_by, number_of)
# What each refuses with behind NoTree and NoWay.
THEN = {lies_at: NoPart, count_at: NoPart, finding_by: NoNumber, number_of: NoFinding}
BAD_LETTERS = ("", "A", "Z", "ab", "aa", "1", " ", "(", "`", "{", "~", "\n", "\t", None, True, False, 1, 97, [],
               ["a"], ("a",), {"a": 1}, {}, b"a")
BAD_LISTS = ((), (("a", []),), None, "", "a", {}, {0: ("a", [])}, 0, 1, True, False, ("a", []), b"")
BAD_TREES = ODD_THINGS + (("a", [], []), ("a", [], None), ([], "a"), (["a"], []), [("a", [])], "a()", ("a", []) * 2,
                          (("a", []),), (("a", []), []), ("a", "b"))
BAD_WAYS = (True, False, None, 0, 1, "", "r", "ro", "rows", "Row", "ROW", " row", "row ", "far", "farows", "far row",
            "heap\n", "farheapp", b"row", ["row"], ("row",), {"row": 1}, {"row"}, [], {}, (), list(WAYS), WAYS,
            "row heap", object())
BAD_PARTS = (-1, -2, -40, -10 ** 25, 10 ** 25, True, False, None, "", "0", "1", [], [0], {}, {0: 0}, (), (0,), b"0",
             {0}, object())


def holders(bad):
    """Trees that hold something bad: at the top, among children, at the first, at the last, deep."""
    yield bad
    yield ("a", [bad])
    yield ("a", [leaf("b"), bad])
    yield ("a", [bad, leaf("b")])
    yield ("a", [read("b(cd)"), ("e", [leaf("f"), ("g", [bad]), leaf("h")]), leaf("i")])
    yield chain_to("a" * 19, bad)


def no_trees():
    for letter in BAD_LETTERS:
        yield from holders((letter, []))
        yield from holders((letter, [leaf("a")]))
    for children in BAD_LISTS:
        yield from holders(("a", children))
    for thing in BAD_TREES:
        yield from holders(thing)


class NoTrees(unittest.TestCase):
    def test_told_of_anything(self):
        for thing in no_trees():
            self.assertIs(is_tree(thing), False, thing)

    def test_all_letters_and_no_other_sign(self):
        for code in range(32, 127):
            small = chr(code) in "abcdefghijklmnopqrstuvwxyz"
            self.assertIs(is_tree((chr(code), [])), small)
            self.assertIs(is_tree(("a", [(chr(code), [])])), small)

    def test_bad_at_every_part(self):
        rng = seeded("bad at every part")
        for bad in (("a", ()), ("ab", []), None, ("a", [], [])):
            for size in (2, 7, 40):
                for k in range(size):
                    tree = random_tree(rng, size, "abc")
                    self.assertTrue(is_tree(tree))
                    nodes = [tree]
                    for node in nodes:
                        nodes.extend(node[1])
                    nodes[k][1].insert(rng.randint(0, len(nodes[k][1])), bad)
                    self.assertFalse(is_tree(tree))

    def test_refused_of_one_tree(self):
        for thing in no_trees():
            self.assertRaises(NoTree, size_of, thing)
            self.assertRaises(NoTree, show_tree, thing)
            for function in AT_A_PART:
                self.assertRaises(NoTree, function, thing, 0)

    def test_refused_ahead_of_a_part(self):
        for thing in BAD_TREES:
            for part in BAD_PARTS:
                for function in AT_A_PART:
                    self.assertRaises(NoTree, function, thing, part)

    def refused_of_two(self, little, great, ways, more):
        for way in ways:
            for function in OF_TWO:
                self.assertRaises(NoTree, function, way, little, great)
            for function in OF_TWO_AND_ONE_MORE:
                for thing in more:
                    self.assertRaises(NoTree, function, way, little, great, thing)
        self.assertRaises(NoTree, nowhere_paper, little, great)
        self.assertRaises(NoTree, nowhere_shows, little, great, [])
        self.assertRaises(NoTree, nowhere_shows, little, great, [(0, 0, [])])

    def test_refused_ahead_of_all_else(self):
        good = read("a(b)")
        for thing in BAD_TREES:
            for little, great in ((thing, good), (good, thing), (thing, thing)):
                self.refused_of_two(little, great, ("row", "farheap", "none", ["row"], None),
                                    (0, -1, None, "0", [0, 1], [0], 10 ** 25))

    def test_refused_of_little_and_great(self):
        good = read("a(b)")
        for at, thing in enumerate(no_trees()):
            self.refused_of_two(thing, good, WAYS[at % 2:at % 2 + 1], ([0, 1], 0))
            self.refused_of_two(good, thing, WAYS[at % 2:at % 2 + 1], ([0, 1], 0))

    def test_refused_ahead_of_too_many(self):
        self.assertRaises(NoTree, all_findings, "row", star(7), ("a", star(39)[1] + [None]))
        self.assertRaises(NoTree, all_findings, "row", ("a", star(6)[1] + [("A", [])]), star(40))


class NoWays(unittest.TestCase):
    def test_refused_of_anything(self):
        for one, other in ((read("a(b)"), read("a(b)")), (leaf("a"), leaf("b")), (star(7), star(40))):
            for way in BAD_WAYS:
                for function in OF_TWO:
                    self.assertRaises(NoWay, function, way, one, other)
                for function in OF_TWO_AND_ONE_MORE:
                    for thing in ([0, 1], 0, None):
                        self.assertRaises(NoWay, function, way, one, other, thing)

    def test_refused_ahead_of_a_part_a_number_and_a_finding(self):
        tree = read("a(b)")
        for way in BAD_WAYS:
            for thing in BAD_PARTS + (2, 3, [0], [1, 0]):
                for function in THEN:
                    self.assertRaises(NoWay, function, way, tree, tree, thing)

    def test_ways_of_what_lies_in_two(self):
        for way in WAYS:
            for function in (common_tree, common_size):
                if way in ("row", "heap"):
                    self.assertIsNotNone(function(way, leaf(), leaf()))
                else:
                    self.assertRaises(NoWay, function, way, leaf(), leaf())


class EachRefusal(unittest.TestCase):
    def test_one_name_alone(self):
        """What is refused is refused with one of the names, and so with a TwigError and a ValueError."""
        tree = read("a(b)")
        for refusal, function, args in ((NoTree, count_findings, ("row", None, tree)),
                                        (NoWay, count_findings, ("rows", tree, tree)),
                                        (NoPart, count_at, ("row", tree, tree, 2)),
                                        (NoNumber, finding_by, ("row", tree, tree, 1)),
                                        (NoFinding, number_of, ("row", tree, tree, [1, 0])),
                                        (TooMany, all_findings, ("row", star(7), star(40))),
                                        (NoTree, nowhere_paper, (tree, None)),
                                        (NoTree, nowhere_shows, (None, tree, [])),
                                        (NoTree, common_tree, ("row", tree, None)),
                                        (NoTree, show_tree, (None,)),
                                        (NoTree, Watch, (None, tree, None)),
                                        (NoWay, Watch, (None, tree, tree)),
                                        (NoWay, common_size, ("farrow", tree, tree))):
            with self.assertRaises(TwigError) as caught:
                function(*args)
            self.assertIsInstance(caught.exception, ValueError)
            self.assertEqual([other for other in REFUSALS if isinstance(caught.exception, other)], [refusal])

    def test_behind_tree_and_way(self):
        tree = read("a(b)")
        for function, refusal in THEN.items():
            for way in WAYS:
                for thing in BAD_PARTS:
                    self.assertRaises(refusal, function, way, tree, tree, thing)


class NoParts(unittest.TestCase):
    def test_refused_of_a_tree(self):
        for tree in (leaf("a"), read("a(bc(d))"), star(40), chain("a" * 20)):
            size = size_of(tree)
            for part in BAD_PARTS + (size, size + 1, size + 40):
                for function in AT_A_PART:
                    self.assertRaises(NoPart, function, tree, part)

    def test_refused_of_where_it_lies(self):
        for little, great in ((leaf("a"), read("a(a)")), (star(7), star(40)), (read("a(bcd)"), leaf("a")),
                              (star(3, "b"), leaf("a"))):
            size = size_of(great)
            for part in BAD_PARTS + (size, size + 1, size + 40):
                for way in WAYS:
                    self.assertRaises(NoPart, lies_at, way, little, great, part)
                    self.assertRaises(NoPart, count_at, way, little, great, part)

    def test_parts_of_the_little_tree_do_not_count(self):
        self.assertRaises(NoPart, lies_at, "row", star(7), leaf("a"), 1)
        self.assertIs(lies_at("row", leaf("a"), star(7), 6), True)
