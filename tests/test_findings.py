"""Promises [5] and [6], and what [3] says of where a little tree lies."""

import copy
import unittest

from tests.makers import WAYS, all_trees, leaf, random_tree, read, seeded, share_a_list, shatter, star
from tests.naive import Pair
from twigfinds.findings import first_finding, is_finding, lies_at, places_of
from twigfinds.trees import size_of

NO_LISTS = (None, True, False, 0, 1, "", "01", "[0]", (), (0,), (0, 1), {}, {0: 0, 1: 1}, {0, 1}, b"\x00\x01", object())
NO_PARTS = (True, False, None, -1, -2, "0", "", [], [0], (0,), {}, {0: 1}, 10 ** 25, -10 ** 25, b"0", {0}, object())


def pairs(seed, many, little_sizes, great_sizes, letters=("a", "ab", "abc")):
    rng = seeded(seed)
    for turn in range(many):
        some = rng.choice(letters)
        yield (random_tree(rng, rng.choice(little_sizes), some), random_tree(rng, rng.choice(great_sizes), some))


def nearly(finding, size):
    """A finding with one number otherwise, two exchanged, one more or fewer."""
    for at in range(len(finding)):
        for spot in range(size):
            yield finding[:at] + [spot] + finding[at + 1:]
        for other in range(at):
            changed = list(finding)
            changed[at], changed[other] = changed[other], changed[at]
            yield changed
        yield finding[:at] + finding[at + 1:]
        yield finding[:at] + [finding[at]] + finding[at:]
    for spot in range(size):
        yield finding + [spot]
    yield []


class ByHand(unittest.TestCase):
    def places(self, little, great):
        return [places_of(way, read(little), read(great)) for way in WAYS]

    def first(self, little, great):
        return [first_finding(way, read(little), read(great)) for way in WAYS]

    def test_order(self):
        self.assertEqual(self.places("a(bc)", "a(cb)"), [[], [0], [], [0]])
        self.assertEqual(self.first("a(bc)", "a(cb)"), [None, [0, 2, 1], None, [0, 2, 1]])

    def test_gaps(self):
        self.assertEqual(self.places("a(c)", "a(b(c))"), [[], [], [0], [0]])
        self.assertEqual(self.first("a(c)", "a(b(c))"), [None, None, [0, 2], [0, 2]])

    def test_none_beneath_another(self):
        self.assertEqual(self.places("a(bc)", "a(b(c))"), [[], [], [], []])
        self.assertEqual(self.places("a(bc)", "a(d(c)d(b))"), [[], [], [], [0]])
        self.assertEqual(self.places("a(aa)", "a(a(a))"), [[], [], [], []])

    def test_all_unlike(self):
        self.assertEqual(self.places("a(bb)", "a(b)"), [[], [], [], []])
        self.assertEqual(self.places("a(bb)", "a(bb)"), [[0], [0], [0], [0]])

    def test_first_that_leaves_room(self):
        # The first child must not take the only place of the second one.
        self.assertEqual(self.first("a(bb(c))", "a(b(c)b)"), [None, [0, 3, 1, 2], None, [0, 3, 1, 2]])
        self.assertEqual(self.first("a(bb)", "a(b(bb))"), [None, None, [0, 2, 3], [0, 2, 3]])
        self.assertEqual(self.first("a(bc)", "a(b(c)b(d)c)"), [[0, 1, 5], [0, 1, 5], [0, 1, 5], [0, 1, 5]])

    def test_one_part(self):
        self.assertEqual(self.places("a", "a(ba(a))"), [[0, 2, 3]] * 4)
        self.assertEqual(self.first("b", "a(ba(a))"), [[1]] * 4)
        self.assertEqual(self.places("c", "a(ba(a))"), [[]] * 4)
        self.assertEqual(self.first("c", "a(ba(a))"), [None] * 4)

    def test_greater_than_the_great_one(self):
        self.assertEqual(self.places("a(aaa)", "a(aa)"), [[]] * 4)
        self.assertEqual(self.first("a(a(a(a)))", "a(a(a))"), [None] * 4)

    def test_kinds(self):
        little, great = read("a(b)"), read("a(bb)")
        for way in WAYS:
            self.assertIs(is_finding(way, little, great, [0, 1]), True)
            self.assertIs(is_finding(way, little, great, [0, 0]), False)
            self.assertIs(lies_at(way, little, great, 0), True)
            self.assertIs(lies_at(way, little, great, 1), False)
            self.assertIs(type(places_of(way, little, great)), list)
            self.assertTrue(all(type(v) is int for v in places_of(way, little, great)))
            self.assertTrue(all(type(v) is int for v in first_finding(way, little, great)))


class OneByOne(unittest.TestCase):
    """All that is told, held against all lists, tried by the words of [5]."""

    def hold(self, little, great, every_list=True):
        pair = Pair(little, great)
        for way in WAYS:
            if every_list:
                found = self.tried(way, little, great, pair)
            else:
                found = [pair.first_at(way, v) for v in range(size_of(great))]
                found = [finding for finding in found if finding is not None]
            places = sorted({finding[0] for finding in found})
            self.assertEqual(places_of(way, little, great), places, (way, little, great))
            self.assertEqual(first_finding(way, little, great), found[0] if found else None, (way, little, great))
            for v in range(size_of(great)):
                self.assertIs(lies_at(way, little, great, v), v in places)

    def tried(self, way, little, great, pair):
        found = []
        for spots in pair.all_lists():
            so = pair.is_finding(way, spots)
            self.assertIs(is_finding(way, little, great, spots), so, (way, little, great, spots))
            if so:
                found.append(spots)
        self.assertEqual(found, sorted(found))
        return found

    def test_all_small_trees_of_two_letters(self):
        littles = [tree for size in (1, 2, 3) for tree in all_trees(size, "ab") if tree[0] == "a"]
        greats = [tree for size in (1, 2, 3, 4) for tree in all_trees(size, "ab")]
        for little in littles:
            for great in greats:
                self.hold(little, great)

    def test_all_small_trees_of_one_letter(self):
        littles = [tree for size in (1, 2, 3, 4) for tree in all_trees(size, "a")]
        greats = [tree for size in (1, 2, 3, 4, 5) for tree in all_trees(size, "a")]
        for little in littles:
            for great in greats:
                self.hold(little, great)

    def test_small_trees_by_chance(self):
        for little, great in pairs("small", 40, (3, 4), (5, 6)):
            self.hold(little, great)

    def test_middle_trees_by_chance(self):
        for little, great in pairs("middle", 300, (3, 4, 5, 6, 7), (8, 10, 12)):
            self.hold(little, great, every_list=False)


class NearlyFindings(unittest.TestCase):
    def test_nearly(self):
        seen = 0
        for little, great in pairs("nearly", 150, (1, 2, 4, 7), (8, 15, 40), ("a", "ab")):
            pair = Pair(little, great)
            for way in WAYS:
                finding = first_finding(way, little, great)
                if finding is None:
                    continue
                seen += 1
                self.assertIs(is_finding(way, little, great, finding), True)
                for spots in nearly(finding, size_of(great)):
                    so = pair.is_finding(way, spots)
                    self.assertIs(is_finding(way, little, great, spots), so, (way, little, great, spots))
        self.assertGreater(seen, 200)

    def test_no_parts_within(self):
        little, great = read("a(bb)"), read("a(bbb)")
        for way in WAYS:
            finding = [0, 1, 2]
            self.assertIs(is_finding(way, little, great, finding), True)
            for at in range(3):
                for thing in NO_PARTS + (4, 5, 40):
                    spots = finding[:at] + [thing] + finding[at + 1:]
                    self.assertIs(is_finding(way, little, great, spots), False, spots)

    def test_truths_are_no_numbers(self):
        for way in WAYS:
            self.assertIs(is_finding(way, leaf(), leaf(), [0]), True)
            self.assertIs(is_finding(way, leaf(), leaf(), [False]), False)
            self.assertIs(is_finding(way, read("a(b)"), read("a(b)"), [0, True]), False)
            self.assertIs(is_finding(way, read("a(b)"), read("a(b)"), [False, 1]), False)

    def test_counting_from_behind(self):
        for way in WAYS:
            self.assertIs(is_finding(way, read("a(b)"), read("a(b)"), [0, -1]), False)
            self.assertIs(is_finding(way, read("a(b)"), read("a(b)"), [-2, 1]), False)

    def test_no_lists(self):
        for way in WAYS:
            for little, great in ((leaf(), leaf()), (read("a(b)"), read("a(b)"))):
                for thing in NO_LISTS + (little, great, (0, 1), [[0, 1]], [[0], [1]], [None]):
                    self.assertIs(is_finding(way, little, great, thing), False, thing)


class WhatLies(unittest.TestCase):
    """[3]: what lies in order lies without; what lies by children lies by gaps, too."""

    def test_within_one_another(self):
        for little, great in pairs("within", 200, (1, 2, 3, 5, 7), (7, 20, 40), ("a", "ab", "abcd")):
            lying = {way: set(places_of(way, little, great)) for way in WAYS}
            self.assertLessEqual(lying["row"], lying["heap"])
            self.assertLessEqual(lying["row"], lying["farrow"])
            self.assertLessEqual(lying["heap"], lying["farheap"])
            self.assertLessEqual(lying["farrow"], lying["farheap"])

    def test_findings_are_findings_of_wider_ways(self):
        wider = {"row": WAYS, "heap": ("heap", "farheap"), "farrow": ("farrow", "farheap"), "farheap": ("farheap",)}
        for little, great in pairs("wider", 150, (2, 3, 5, 7), (7, 20, 40), ("a", "ab")):
            for way in WAYS:
                finding = first_finding(way, little, great)
                for other in wider[way] if finding else ():
                    self.assertIs(is_finding(other, little, great, finding), True)


class TheAskersOwn(unittest.TestCase):
    def test_handed_in_stays(self):
        for little, great in pairs("stays", 30, (1, 3, 7), (7, 40)):
            kept = copy.deepcopy((little, great))
            for way in WAYS:
                spots = list(range(size_of(little)))
                is_finding(way, little, great, spots)
                self.assertEqual(spots, list(range(size_of(little))))
                shatter(places_of(way, little, great))
                shatter(first_finding(way, little, great))
                lies_at(way, little, great, 0)
            self.assertEqual((little, great), kept)

    def test_told_again_the_same_and_anew(self):
        for little, great in pairs("again", 30, (1, 3, 5), (7, 40), ("a", "ab")):
            for way in WAYS:
                places, finding = places_of(way, little, great), first_finding(way, little, great)
                kept = copy.deepcopy((places, finding))
                self.assertFalse(share_a_list(places, finding, places_of(way, little, great),
                                              first_finding(way, little, great), little, great))
                shatter((places, finding))
                self.assertEqual((places_of(way, little, great), first_finding(way, little, great)), kept)

    def test_one_tree_at_several_places(self):
        twig = ("b", [("c", []), ("d", [])])
        kids = [twig, ("e", []), twig]
        great = ("a", [twig, ("f", kids), ("g", kids), twig])
        little = ("a", [twig, twig])
        for one, other in ((little, great), (twig, great), (great[1][1], great), (twig, twig), (great, great)):
            pair = Pair(one, other)
            for way in WAYS:
                found = [pair.first_at(way, v) for v in range(size_of(other))]
                self.assertEqual(places_of(way, one, other), [v for v, told in enumerate(found) if told])
                told = [finding for finding in found if finding]
                self.assertEqual(first_finding(way, one, other), told[0] if told else None)

    def test_little_and_great_are_one(self):
        for tree in (leaf(), star(7), read("a(b(cd)e(f))")):
            for way in WAYS:
                self.assertEqual(first_finding(way, tree, tree), list(range(size_of(tree))))
                self.assertEqual(places_of(way, tree, tree)[0], 0)
