"""Promise [10], and what [3] says of trees that lie in two."""

import copy
import itertools
import unittest

from tests.makers import (ALPHABET, ODD_THINGS, all_trees, chain, chain_to, holds_a_list_of, leaf, random_tree, read,
                          seeded, share_a_list, shatter, star)
from tests.naive import Pair, lies_at_top, most_in_two, parts
from tests.test_findings import pairs
from tests.test_great import branched, broom, comb
from twigfinds.common import common_size, common_tree, pairs_at_will, pairs_in_order
from twigfinds.errors import NoWay
from twigfinds.findings import lies_at
from twigfinds.trees import is_tree, size_of

BOTH = ("row", "heap")


def most_by_bits(way, one, other):
    """The most parts, by going through the sets of the other's children that may have been taken."""
    if one[0] != other[0]:
        return 0
    best = {0: 0}
    for kid in one[1]:
        worths = [most_by_bits(way, kid, spot) for spot in other[1]]
        grown = dict(best)
        for taken, many in best.items():
            for at, worth in enumerate(worths):
                # In order, none that stands behind it may have been taken.
                free = taken >> at == 0 if way == "row" else taken >> at & 1 == 0
                if worth and free:
                    grown[taken | 1 << at] = max(grown.get(taken | 1 << at, 0), many + worth)
        best = grown
    return 1 + max(best.values())


def brooms(sizes, letter="a"):
    return (letter, [star(size) for size in sizes])


class InTwo(unittest.TestCase):
    def hold(self, way, one, other, most):
        """That the told tree lies in both and has so many parts."""
        told = common_tree(way, one, other)
        size = common_size(way, one, other)
        self.assertEqual(size, most, (way, one, other))
        self.assertIs(type(size), int)
        if most == 0:
            self.assertIsNone(told)
        else:
            self.assertTrue(is_tree(told))
            self.assertEqual(len(parts(told)), size, (way, one, other))
            self.assertTrue(lies_at_top(way, told, one), (way, one, other, told))
            self.assertTrue(lies_at_top(way, told, other), (way, one, other, told))

    def hold_both_ways_about(self, way, one, other, most):
        self.hold(way, one, other, most)
        self.hold(way, other, one, most)


class Pairs(unittest.TestCase):
    """Pairs of rows and columns, held against all that there are."""

    def all_choices(self, way, high, wide):
        for many in range(min(high, wide) + 1):
            for rows in itertools.combinations(range(high), many):
                for columns in itertools.permutations(range(wide), many):
                    if way == "heap" or list(columns) == sorted(columns):
                        yield list(zip(rows, columns))

    def hold(self, way, chooser, worths):
        wide = len(worths[0]) if worths else 0
        choices = list(self.all_choices(way, len(worths), wide))
        pairs_told = chooser(worths)
        self.assertIn(sorted(pairs_told), choices, worths)
        most = max(sum(worths[row][column] for row, column in choice) for choice in choices)
        self.assertEqual(sum(worths[row][column] for row, column in pairs_told), most, worths)
        self.assertTrue(all(worths[row][column] > 0 for row, column in pairs_told), worths)

    def test_against_all(self):
        rng = seeded("worths")
        for way, chooser in (("row", pairs_in_order), ("heap", pairs_at_will)):
            for worths in ([], [[]], [[], []], [[0]], [[1]], [[0, 0], [0, 0]]):
                self.hold(way, chooser, worths)
            for turn in range(400):
                high, wide, most = rng.randint(1, 5), rng.randint(1, 5), rng.choice((1, 2, 5, 9))
                self.hold(way, chooser, [[rng.randint(0, most) for column in range(wide)] for row in range(high)])

    def test_long_chains(self):
        """A last row whose only column is held by one that must move on, and so must the next one, to the end."""
        for size in (5, 20, 39):
            chained = [[2 if column in (row, row + 1) else 0 for column in range(size)] for row in range(size - 1)]
            chained.append([0] * (size - 1) + [1])
            for worths in (chained, chained[::-1], [row[::-1] for row in chained],
                           [row[::-1] for row in chained[::-1]]):
                told = pairs_at_will(worths)
                self.assertEqual(len(told), size)
                self.assertEqual(sum(worths[row][column] for row, column in told), 2 * size - 1)


class Small(InTwo):
    def test_by_hand(self):
        for one, other, row, heap in (
                ("a", "a", 1, 1),
                ("a", "b", 0, 0),
                ("a(b)", "b(a)", 0, 0),
                ("a(bc)", "a(cb)", 2, 3),
                ("a(b(c)d)", "a(db(c))", 3, 4),
                ("a(b(c))", "a(c)", 1, 1),
                ("a(b(cd)b)", "a(b(c)b(d))", 4, 4),
                ("a(b(cc)b(c))", "a(b(c)b(cc))", 5, 6),
                ("a(bbb)", "a(bb)", 3, 3),
                ("a(bcd)", "a(dcb)", 2, 4)):
            self.hold_both_ways_about("row", read(one), read(other), row)
            self.hold_both_ways_about("heap", read(one), read(other), heap)

    def test_the_tree_itself(self):
        self.assertIn(common_tree("row", read("a(bcd)"), read("a(cbd(e))")), (read("a(bd)"), read("a(cd)")))
        self.assertEqual(common_tree("row", read("a(b(c)d)"), read("a(db(ce))")), read("a(b(c))"))
        self.assertEqual(common_tree("heap", read("a(b)"), read("a(cb(d))")), read("a(b)"))
        self.assertIsNone(common_tree("heap", leaf("a"), leaf("b")))

    def test_a_child_leaves_its_best_place_to_another(self):
        # The first child of the one finds the most in the first of the other, but so does the second.
        for one, other, row, heap in (("a(b(cd)b(ef))", "a(b(cdef)b(cd))", 5, 7),
                                      ("a(b(cdg)b(ef))", "a(b(cdefg)b(cd))", 6, 7),
                                      ("a(b(cccc)b(ccc))", "a(b(cccd)b(cccc))", 9, 10)):
            self.hold_both_ways_about("row", read(one), read(other), row)
            self.hold_both_ways_about("heap", read(one), read(other), heap)

    def against_all(self, trees):
        """Each two of the trees, held against those of them that lie at part 0 of both."""
        sizes = [size_of(tree) for tree in trees]
        for way in BOTH:
            lying = [{at for at, tree in enumerate(trees) if Pair(tree, great).first_at(way, 0)} for great in trees]
            for one, other in itertools.product(range(len(trees)), repeat=2):
                most = max([sizes[at] for at in lying[one] & lying[other]], default=0)
                self.hold(way, trees[one], trees[other], most)

    def test_against_all_trees_of_two_letters(self):
        self.against_all([tree for size in (1, 2, 3) for tree in all_trees(size, "ab")])

    def test_against_all_trees_of_one_letter(self):
        self.against_all([tree for size in (1, 2, 3, 4, 5) for tree in all_trees(size, "a")])

    def test_against_all_prunings(self):
        for one, other in pairs("prunings", 150, (4, 6, 7, 8), (5, 7, 8), ("a", "ab", "abc")):
            for way in BOTH:
                self.hold(way, one, other, most_in_two(way, one, other))

    def test_told_by_the_package_to_lie_in_both(self):
        for one, other in pairs("to lie in both", 100, (3, 5, 7), (7, 12, 40)):
            for way in BOTH:
                told = common_tree(way, one, other)
                for great in (one, other) if told else ():
                    self.assertIs(lies_at(way, told, great, 0), True)

    def test_in_order_is_no_greater_than_without(self):
        for one, other in pairs("no greater", 100, (7, 20, 40), (7, 20, 40)):
            self.assertLessEqual(common_size("row", one, other), common_size("heap", one, other))

    def test_one_tree_at_several_places(self):
        twig = ("b", [("c", []), ("d", [])])
        kids = [twig, ("e", []), twig]
        one = ("a", [twig, ("f", kids), ("g", kids), twig])
        other = ("a", [("g", kids), ("f", kids), twig])
        for way, most in (("row", 1 + 8 + 3), ("heap", 1 + 8 + 8 + 3)):
            self.hold_both_ways_about(way, one, other, most)
            self.hold(way, one, one, size_of(one))


class Forty(InTwo):
    """Trees of forty parts each."""

    def test_itself(self):
        rng = seeded("itself")
        trees = [star(40), comb(), broom(), branched(), chain("a" * 20), star(27, "a", ALPHABET)]
        for tree in trees + [random_tree(rng, 40, letters) for letters in ("a", "ab", "abc", ALPHABET)]:
            for way in BOTH:
                self.hold(way, tree, tree, size_of(tree))

    def test_stars(self):
        self.hold_both_ways_about("heap", star(40), star(30), 30)
        self.hold_both_ways_about("row", star(40), star(30), 30)
        one, other = star(40, "a", "b" * 20 + "c" * 19), star(40, "a", "c" * 15 + "b" * 24)
        self.hold_both_ways_about("row", one, other, 21)
        self.hold_both_ways_about("heap", one, other, 36)
        up, down = star(27, "a", ALPHABET), star(27, "a", ALPHABET[::-1])
        self.hold_both_ways_about("row", up, down, 2)
        self.hold_both_ways_about("heap", up, down, 27)

    def test_rows(self):
        for way in BOTH:
            self.hold_both_ways_about(way, chain("a" * 20), chain("a" * 12 + "b" * 8), 12)
            self.hold_both_ways_about(way, chain("a" * 20), star(40), 2)
            self.hold_both_ways_about(way, chain("a" * 20), comb(), 20)
            self.hold_both_ways_about(way, chain("ab" * 10), chain("ba" * 10), 0)
            self.hold_both_ways_about(way, chain("a" * 20), broom(), 20)
            self.hold_both_ways_about(way, chain_to("a" * 19, star(20)), broom(), 39)

    def test_brooms_of_one_letter(self):
        """Without order the greatest go together, which is the best for the least of two sizes."""
        rng = seeded("brooms")
        for turn in range(40):
            one, other = ([1 + len(part) for part in self.shares(rng)] for side in range(2))
            least = sum(min(pair) for pair in zip(sorted(one, reverse=True), sorted(other, reverse=True)))
            self.hold_both_ways_about("heap", brooms(one), brooms(other), 1 + least)
            self.hold("row", brooms(sorted(one)[::-1]), brooms(sorted(other)[::-1]), 1 + least)

    def shares(self, rng):
        kids = rng.randint(4, 20)
        parts_of_kids = [[] for kid in range(kids)]
        for turn in range(39 - kids):
            rng.choice(parts_of_kids).append(turn)
        return parts_of_kids

    def test_by_bits(self):
        rng = seeded("by bits")
        for turn in range(80):
            letters = rng.choice(("a", "ab", "abc"))
            one = random_tree(rng, 40, letters, bushy=40)
            other = random_tree(rng, 40, letters, bushy=rng.choice((3, 40)))
            for way in BOTH:
                self.hold(way, one, other, most_by_bits(way, one, other))

    def test_twigs_on_stars_by_bits(self):
        """Many children of one part, with unlike worths for one another."""
        rng = seeded("twigs on stars")
        twigs = ("b", "b(c)", "b(d)", "b(cd)", "b(dd)", "b(ccd)", "c(c)", "c(d)", "b(c(d))", "b(d(c)c)")
        for turn in range(60):
            one, other = (read("a(" + "".join(rng.choice(twigs) for kid in range(rng.randint(7, 9))) + ")")
                          for side in range(2))
            for way in BOTH:
                self.hold_both_ways_about(way, one, other, most_by_bits(way, one, other))

    def test_cut_down(self):
        """A tree with leaves taken away, and its children mixed for heap, lies in what it was."""
        rng = seeded("cut down")
        for turn in range(60):
            whole = random_tree(rng, 40, rng.choice(("a", "ab", "abcde")))
            for way in BOTH:
                part = self.cut(rng, way, whole)
                self.hold_both_ways_about(way, whole, part, size_of(part))

    def cut(self, rng, way, tree):
        kids = [self.cut(rng, way, kid) for kid in tree[1] if rng.random() < 0.85]
        if way == "heap":
            rng.shuffle(kids)
        return (tree[0], kids)

    def test_somewhat_beyond_the_bounds(self):
        for way in BOTH:
            self.hold(way, star(50), star(48), 48)
            self.hold(way, chain("a" * 24), chain("a" * 23), 23)


class NoWays(unittest.TestCase):
    def test_far_ways_and_anything_else(self):
        for way in ("farrow", "farheap", "", "r", "rows", "Row", "heap ", b"row", ["row"], ("row",), {"row": 1},
                    {"row"}, ("row", "heap"), 0, 1) + ODD_THINGS:
            for one, other in ((leaf(), leaf()), (leaf("a"), leaf("b")), (star(40), chain("a" * 20))):
                self.assertRaises(NoWay, common_tree, way, one, other)
                self.assertRaises(NoWay, common_size, way, one, other)


class TheAskersOwn(unittest.TestCase):
    def test_handed_in_stays(self):
        for one, other in pairs("in two stays", 40, (3, 7, 40), (7, 40)):
            kept = copy.deepcopy((one, other))
            for way in BOTH:
                shatter(common_tree(way, one, other))
                common_size(way, one, other)
            self.assertEqual((one, other), kept)

    def test_told_again_the_same_and_anew(self):
        twig = ("a", [leaf(), leaf()])
        kids = [twig, twig, leaf()]
        shared = ("a", [("a", kids), ("a", kids), twig])
        for one, other in list(pairs("in two again", 40, (3, 7, 40), (7, 40), ("a", "ab"))) + [(shared, shared)]:
            for way in BOTH:
                told, again = common_tree(way, one, other), common_tree(way, one, other)
                kept = copy.deepcopy(told)
                self.assertFalse(share_a_list(told, again))
                self.assertFalse(holds_a_list_of(told, (one, other)))
                shatter(told)
                self.assertEqual([again, common_tree(way, one, other)], [kept, kept])
