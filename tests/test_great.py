"""Great trees of forty parts with little ones of seven: no going through all findings."""

import unittest

from tests.makers import (ALPHABET, WAYS, chain, chain_to, leaf, random_tree, seeded, star, with_few_calls)
from tests.naive import Pair
from twigfinds.findings import first_finding, is_finding, lies_at, places_of
from twigfinds.trees import size_of

# Far fewer than there are findings, or lists that are nearly findings, in the trees below.
MOST_CALLS = 600000


def comb(letter="a"):
    """Twenty deep, a leaf ahead of each part of the spine but the first."""
    tree = leaf(letter)
    for turn in range(19):
        tree = (letter, [leaf(letter), tree])
    return tree


def broom():
    return chain_to("a" * 19, star(21))


def branched():
    """Forty parts of one letter: three children each, as far as they go."""
    twig = ("a", [("a", [leaf(), leaf(), leaf()]) for turn in range(3)])
    return ("a", [twig, twig, twig])


class Great(unittest.TestCase):
    def places(self, way, little, great):
        return with_few_calls(MOST_CALLS, places_of, way, little, great)

    def first(self, way, little, great):
        return with_few_calls(MOST_CALLS, first_finding, way, little, great)

    def test_stars_of_one_letter(self):
        for way in WAYS:
            self.assertEqual(self.places(way, star(7), star(40)), [0])
            self.assertEqual(self.first(way, star(7), star(40)), [0, 1, 2, 3, 4, 5, 6])

    def test_star_that_lies_nowhere_by_one_leaf(self):
        # Each of the many ways to place the five a fails at the b alone.
        for letters in ("aaaaab", "baaaaa", "aabaaa"):
            for way in WAYS:
                for great in (star(40), broom(), comb(), branched()):
                    self.assertEqual(self.places(way, star(7, "a", letters), great), [])
                    self.assertIsNone(self.first(way, star(7, "a", letters), great))
                    self.assertFalse(with_few_calls(MOST_CALLS, lies_at, way, star(7, "a", letters), great, 0))

    def test_star_whose_last_leaf_stands_first(self):
        great = star(40, "a", "b" + "a" * 38)
        little = star(7, "a", "aaaaab")
        self.assertEqual([self.first(way, little, great) for way in WAYS],
                         [None, [0, 2, 3, 4, 5, 6, 1], None, [0, 2, 3, 4, 5, 6, 1]])

    def test_star_whose_leaves_stand_last(self):
        great = star(40, "a", "a" * 33 + "bcdefg")
        for way in WAYS:
            self.assertEqual(self.first(way, star(7, "a", "bcdefg"), great), [0, 34, 35, 36, 37, 38, 39])
        self.assertEqual([self.places(way, star(7, "a", "gfedcb"), great) for way in WAYS], [[], [0], [], [0]])

    def test_rows_of_one_letter(self):
        for way in WAYS:
            self.assertEqual(self.places(way, chain("a" * 7), chain("a" * 20)), list(range(14)))
            self.assertEqual(self.first(way, chain("a" * 7), chain("a" * 20)), [0, 1, 2, 3, 4, 5, 6])
            self.assertEqual(self.places(way, star(7), chain("a" * 20)), [])
            self.assertEqual(self.places(way, chain("a" * 7), star(40)), [])

    def test_row_that_lies_nowhere_by_its_tip(self):
        for way in WAYS:
            self.assertEqual(self.places(way, chain("aaaaaab"), chain("a" * 20)), [])
            self.assertEqual(self.places(way, chain("aaaaaab"), comb()), [])

    def test_broom(self):
        far = list(range(20))
        self.assertEqual([self.places(way, star(7), broom()) for way in WAYS], [[19], [19], far, far])
        self.assertEqual(self.first("row", star(7), broom()), [19, 20, 21, 22, 23, 24, 25])
        self.assertEqual(self.first("farheap", star(7), broom()), [0, 20, 21, 22, 23, 24, 25])

    def test_comb(self):
        self.assertEqual([self.places(way, star(7), comb()) for way in ("row", "heap")], [[], []])
        # On the spine at 2k stand the leaves beneath: 19 - k, and the tip.
        spine = [2 * k for k in range(20) if 20 - k >= 6]
        for way in ("farrow", "farheap"):
            self.assertEqual(self.places(way, star(7), comb()), spine)
            self.assertEqual(self.first(way, star(7), comb()), [0, 1, 3, 5, 7, 9, 10])

    def test_all_letters(self):
        great = star(27, "a", ALPHABET)
        for way in WAYS:
            self.assertEqual(self.first(way, star(7, "a", "bdfhjz"), great), [0, 2, 4, 6, 8, 10, 26])
        self.assertEqual([self.places(way, star(7, "a", "zjhfdb"), great) for way in WAYS], [[], [0], [], [0]])

    def test_by_chance(self):
        rng = seeded("great by chance")
        for turn in range(40):
            letters = rng.choice(("a", "ab", "abc", ALPHABET))
            little, great = random_tree(rng, 7, letters), random_tree(rng, 40, letters)
            pair = Pair(little, great)
            for way in WAYS:
                places, finding = self.places(way, little, great), self.first(way, little, great)
                self.assertEqual(places, [v for v in range(40) if lies_at(way, little, great, v)])
                self.assertEqual(None if finding is None else finding[0], places[0] if places else None)
                if finding is not None:
                    self.assertTrue(pair.is_finding(way, finding))
                    self.assertTrue(is_finding(way, little, great, finding))

    def test_by_the_words_where_letters_are_few_enough_to_try(self):
        rng = seeded("great by the words")
        for turn in range(60):
            letters = rng.choice(("abcd", "abcdefg"))
            little, great = random_tree(rng, rng.choice((4, 5, 7)), letters), random_tree(rng, 40, letters)
            pair = Pair(little, great)
            for way in WAYS:
                tried = [pair.first_at(way, v) for v in range(40)]
                found = [finding for finding in tried if finding is not None]
                self.assertEqual(self.places(way, little, great), [finding[0] for finding in found])
                self.assertEqual(self.first(way, little, great), found[0] if found else None)

    def test_planted(self):
        """A little tree cut out of the great one lies where it was cut out."""
        rng = seeded("planted")
        for turn in range(60):
            great = random_tree(rng, 40, rng.choice(("a", "ab", "abcde")))
            pair = Pair(great, great)
            for way in WAYS:
                little, spots = self.cut_out(rng, way, great, pair)
                self.assertTrue(is_finding(way, little, great, spots), (way, little, great, spots))
                self.assertTrue(lies_at(way, little, great, spots[0]))
                self.assertLessEqual(self.first(way, little, great), spots)

    def cut_out(self, rng, way, great, pair):
        """A tree of at most seven parts, and a finding of it."""
        left = [6]

        def cut(v):
            kids = self.some_apart(rng, way, v, pair, left)
            found = [cut(w) for w in kids]
            return ((pair.letters[v], [tree for tree, spots in found]),
                    [v] + [w for tree, spots in found for w in spots])

        return cut(rng.choice([v for v in range(40) if pair.kids[v]]))

    def some_apart(self, rng, way, v, pair, left):
        near = way in ("row", "heap")
        under = pair.kids[v] if near else [w for w in range(v + 1, 40)]
        chosen = []
        for w in rng.sample(under, len(under)):
            rising = sorted(chosen + [w])
            if left[0] > 0 and rng.random() < 0.7 and pair.stand_well("heap" if near else "farheap", v, rising):
                chosen.append(w)
                left[0] -= 1
        return sorted(chosen) if way in ("row", "farrow") else chosen

    def test_somewhat_beyond_the_bounds(self):
        for way in WAYS:
            self.assertEqual(self.first(way, star(9), star(45)), list(range(9)))
            self.assertEqual(self.places(way, chain("a" * 9), chain("a" * 22)), list(range(14)))

    def test_sizes_of_these_trees(self):
        self.assertEqual([size_of(tree) for tree in (star(40), comb(), broom(), branched())], [40, 39, 40, 40])
