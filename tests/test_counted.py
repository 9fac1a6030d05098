"""Promises [7] and [8], and what [3] says of counts and numbers."""

import copy
import math
import unittest

from tests.makers import (ALPHABET, ODD_THINGS, WAYS, all_trees, chain, leaf, random_tree, read, seeded, share_a_list,
                          shatter, star, with_few_calls)
from tests.naive import Pair
from tests.test_findings import NO_LISTS, NO_PARTS, nearly, pairs
from tests.test_great import branched, broom, comb
from twigfinds.counted import all_findings, count_at, count_findings, finding_by, number_of
from twigfinds.errors import NoFinding, NoNumber, TooMany
from twigfinds.findings import first_finding, is_finding, places_of
from twigfinds.trees import size_of

# Far fewer than a star of seven has findings in forty parts of one letter.
MOST_CALLS = 3000000
NO_NUMBERS = ODD_THINGS + (-1, -2, -300, "2", b"0", (0,), {0: 0}, {0})


def quick(function, *args):
    """What is told without going through all the findings of a great tree."""
    return with_few_calls(MOST_CALLS, function, *args)


def just_many(last_twig=""):
    """Forty parts at most, with 300 findings of a(bc) in each way, and as many more as the last twig has."""
    return read("z(a(" + "b" * 15 + "c" * 20 + ")" + last_twig + ")")


class ByHand(unittest.TestCase):
    def test_counts(self):
        for little, great, counts in (
                ("a", "a", [1, 1, 1, 1]),
                ("b", "a(a)", [0, 0, 0, 0]),
                ("a(bc)", "a(cb)", [0, 1, 0, 1]),
                ("a(c)", "a(b(c))", [0, 0, 1, 1]),
                ("a(bc)", "a(b(c))", [0, 0, 0, 0]),
                ("a(aa)", "a(aaaa)", [6, 12, 6, 12]),
                ("a(a)", "a(a(a)a)", [3, 3, 4, 4]),
                ("a(bb)", "a(b(bb)b)", [1, 2, 4, 8]),
                ("a(b(c)b)", "a(b(cc)b(c))", [2, 3, 2, 3])):
            self.assertEqual([count_findings(way, read(little), read(great)) for way in WAYS], counts, little)

    def test_counts_at(self):
        little, great = read("a(a)"), read("a(a(a)a)")
        self.assertEqual([[count_at(way, little, great, v) for v in range(4)] for way in WAYS],
                         [[2, 1, 0, 0], [2, 1, 0, 0], [3, 1, 0, 0], [3, 1, 0, 0]])

    def test_all_in_order(self):
        little, great = read("a(bb)"), read("a(b(bb)b)")
        self.assertEqual(all_findings("row", little, great), [[0, 1, 4]])
        self.assertEqual(all_findings("heap", little, great), [[0, 1, 4], [0, 4, 1]])
        self.assertEqual(all_findings("farrow", little, great), [[0, 1, 4], [0, 2, 3], [0, 2, 4], [0, 3, 4]])
        self.assertEqual(all_findings("farheap", little, great),
                         [[0, 1, 4], [0, 2, 3], [0, 2, 4], [0, 3, 2], [0, 3, 4], [0, 4, 1], [0, 4, 2], [0, 4, 3]])

    def test_by_number(self):
        little, great = read("a(b(c)b)"), read("a(b(cc)b(c))")
        found = [[0, 1, 2, 4], [0, 1, 3, 4], [0, 4, 5, 1]]
        self.assertEqual([finding_by("heap", little, great, number) for number in range(3)], found)
        self.assertEqual([number_of("heap", little, great, finding) for finding in found], [0, 1, 2])
        self.assertRaises(NoFinding, number_of, "row", little, great, found[2])
        self.assertRaises(NoNumber, finding_by, "row", little, great, 2)

    def test_kinds(self):
        little, great = read("a(b)"), read("a(bb)")
        for way in WAYS:
            numbers = [count_findings(way, little, great), count_at(way, little, great, 0),
                       count_at(way, little, great, 1), number_of(way, little, great, [0, 1]),
                       number_of(way, little, great, [0, 2])]
            self.assertEqual(numbers, [2, 2, 0, 0, 1])
            self.assertTrue(all(type(number) is int for number in numbers))
            told = all_findings(way, little, great)
            self.assertIs(type(told), list)
            self.assertTrue(all(type(finding) is list for finding in told))
            self.assertTrue(all(type(spot) is int for finding in told for spot in finding))
            self.assertIs(type(finding_by(way, little, great, 0)), list)


class OneByOne(unittest.TestCase):
    """All that is told, held against the findings listed one by one by the words of [5]."""

    def hold(self, way, little, great, found, most_numbers=40):
        told = (way, little, great)
        self.assertEqual(count_findings(*told), len(found), told)
        heads = [finding[0] for finding in found]
        self.assertEqual([count_at(*told, v) for v in range(size_of(great))],
                         [heads.count(v) for v in range(size_of(great))], told)
        if len(found) > 300:
            self.assertRaises(TooMany, all_findings, *told)
        else:
            self.assertEqual(all_findings(*told), found, told)
        step = max(1, len(found) // most_numbers)
        for number in sorted(set(range(0, len(found), step)) | {len(found) - 1} - {-1}):
            self.assertEqual(finding_by(*told, number), found[number], told)
            self.assertEqual(number_of(*told, found[number]), number, told)
        for number in (-1, len(found), len(found) + 1, len(found) + 300):
            self.assertRaises(NoNumber, finding_by, *told, number)

    def hold_all_ways(self, little, great):
        pair = Pair(little, great)
        for way in WAYS:
            found = list(pair.findings(way))
            self.assertEqual(found, sorted(found))
            self.hold(way, little, great, found)

    def test_all_small_trees_of_two_letters(self):
        for little in [tree for size in (1, 2, 3) for tree in all_trees(size, "ab") if tree[0] == "a"]:
            for great in [tree for size in (1, 2, 3) for tree in all_trees(size, "ab")]:
                self.hold_all_ways(little, great)

    def test_all_small_trees_of_one_letter(self):
        for little in [tree for size in (1, 2, 3, 4) for tree in all_trees(size, "a")]:
            for great in [tree for size in (3, 4, 5) for tree in all_trees(size, "a")]:
                self.hold_all_ways(little, great)

    def test_all_lists_tried(self):
        for little, great in pairs("all lists", 20, (3, 4), (5, 6), ("a", "ab")):
            pair = Pair(little, great)
            lists = list(pair.all_lists())
            for way in WAYS:
                self.hold(way, little, great, [spots for spots in lists if pair.is_finding(way, spots)])

    def test_by_chance(self):
        for little, great in pairs("counted by chance", 120, (2, 3, 4, 5), (7, 8, 9)):
            self.hold_all_ways(little, great)

    def test_great_by_chance(self):
        for little, great in pairs("counted great", 25, (3, 4, 7), (40,), ("abcde", ALPHABET)):
            self.hold_all_ways(little, great)

    def test_one_tree_at_several_places(self):
        twig = ("b", [("c", []), ("d", [])])
        kids = [twig, ("e", []), twig]
        great = ("a", [twig, ("f", kids), ("g", kids), twig])
        for little in (twig, ("a", [twig, twig]), ("a", [("c", []), ("c", [])]), ("f", kids)):
            self.hold_all_ways(little, great)


class Great(unittest.TestCase):
    """Counted and by number without going through them."""

    def test_star_in_star(self):
        counts = [math.comb(39, 6), math.perm(39, 6), math.comb(39, 6), math.perm(39, 6)]
        self.assertEqual([quick(count_findings, way, star(7), star(40)) for way in WAYS], counts)
        self.assertEqual([quick(count_at, way, star(7), star(40), 0) for way in WAYS], counts)
        self.assertEqual([quick(count_at, way, star(7), star(40), 1) for way in WAYS], [0] * 4)

    def test_star_with_most_children_of_one(self):
        # 36 children of the first part, three beneath the first of them.
        great = ("a", [star(4)] + [leaf()] * 35)
        self.assertEqual(size_of(great), 40)
        near, far = math.comb(36, 6), math.comb(38, 6) + math.comb(35, 5)
        many = math.factorial(6)
        self.assertEqual([quick(count_findings, way, star(7), great) for way in WAYS],
                         [near, near * many, far, far * many])

    def test_rows(self):
        counts = [14, 14, math.comb(20, 7), math.comb(20, 7)]
        self.assertEqual([quick(count_findings, way, chain("a" * 7), chain("a" * 20)) for way in WAYS], counts)

    def test_broom(self):
        far = sum(math.comb(20, 6) for v in range(20))
        self.assertEqual([quick(count_findings, way, star(7), broom()) for way in WAYS],
                         [math.comb(20, 6), math.perm(20, 6), far, far * math.factorial(6)])

    def ends(self, way, little, great):
        many = quick(count_findings, way, little, great)
        found = [quick(finding_by, way, little, great, number) for number in (0, many - 1)]
        self.assertEqual([quick(number_of, way, little, great, finding) for finding in found], [0, many - 1])
        return found

    def test_first_and_last_by_hand(self):
        up, down = [34, 35, 36, 37, 38, 39], [39, 38, 37, 36, 35, 34]
        first = [0, 1, 2, 3, 4, 5, 6]
        self.assertEqual([self.ends(way, star(7), star(40)) for way in WAYS],
                         [[first, [0] + up], [first, [0] + down]] * 2)
        last = [[13, 14, 15, 16, 17, 18, 19]] * 4
        self.assertEqual([self.ends(way, chain("a" * 7), chain("a" * 20))[1] for way in WAYS], last)

    def hold(self, rng, way, little, great):
        """Numbers there and back, greater lists for greater numbers, counts at the parts in sum."""
        told = (way, little, great)
        many = quick(count_findings, *told)
        counts = [count_at(*told, v) for v in range(size_of(great))]
        self.assertEqual(sum(counts), many)
        self.assertEqual([v for v, count in enumerate(counts) if count > 0], places_of(*told))
        self.assertRaises(NoNumber, finding_by, *told, many)
        if many == 0:
            return 0
        numbers = sorted({0, many - 1, many // 2} | {rng.randrange(many) for turn in range(3)})
        numbers = sorted(set(numbers) | {number + 1 for number in numbers if number + 1 < many})
        found = [finding_by(*told, number) for number in numbers]
        pair = Pair(little, great)
        self.assertTrue(all(pair.is_finding(way, finding) for finding in found), told)
        self.assertEqual([number_of(*told, finding) for finding in found], numbers)
        self.assertTrue(all(one < other for one, other in zip(found, found[1:])), told)
        self.assertEqual(found[0], first_finding(*told))
        return many

    def test_by_chance(self):
        rng = seeded("numbers by chance")
        counts = []
        for turn in range(20):
            letters = rng.choice(("a", "a", "ab", "abc"))
            little, great = random_tree(rng, 7, letters), random_tree(rng, 40, letters)
            counts.extend(self.hold(rng, way, little, great) for way in WAYS)
        self.assertGreater(len([count for count in counts if count > 10 ** 4]), 10)

    def test_shapes(self):
        rng = seeded("numbers of shapes")
        for great in (star(40), comb(), broom(), branched(), chain("a" * 20)):
            for little in (star(7), chain("a" * 7), read("a(aa(a)aa)")):
                for way in WAYS:
                    self.hold(rng, way, little, great)

    def test_next_numbers_lead_to_next_findings(self):
        # From any number on, the findings as the words of [5] go on from that list.
        little, great = read("a(aaa(a))"), comb()
        for way in ("farrow", "farheap"):
            many = count_findings(way, little, great)
            found = list(Pair(little, great).findings(way, (26,)))
            start = sum(count_at(way, little, great, v) for v in range(26))
            self.assertGreater(len(found), 10)
            self.assertEqual([finding_by(way, little, great, start + at) for at in range(len(found))], found)
            self.assertLess(start + len(found), many)

    def test_somewhat_beyond_the_bounds(self):
        self.assertEqual([quick(count_findings, way, star(9), star(45)) for way in ("row", "heap")],
                         [math.comb(44, 8), math.perm(44, 8)])


class NoNumbers(unittest.TestCase):
    def test_of_anything(self):
        for little, great in ((leaf(), leaf()), (read("a(b)"), read("a(bb)")), (leaf("b"), leaf()),
                              (star(7), star(40))):
            for way in WAYS:
                many = count_findings(way, little, great)
                for thing in NO_NUMBERS + (many, many + 1):
                    self.assertRaises(NoNumber, finding_by, way, little, great, thing)

    def test_truths(self):
        # True is like 1 and False like 0, and both are findings' numbers here.
        self.assertEqual(finding_by("row", leaf(), star(3), 1), [1])
        self.assertRaises(NoNumber, finding_by, "row", leaf(), star(3), True)
        self.assertRaises(NoNumber, finding_by, "row", leaf(), star(3), False)


class NoFindings(unittest.TestCase):
    def test_nearly(self):
        told, refused = 0, 0
        for little, great in pairs("nearly counted", 60, (1, 2, 4, 6), (8, 12), ("a", "ab")):
            pair = Pair(little, great)
            for way in WAYS:
                many = count_findings(way, little, great)
                if many == 0:
                    continue
                for spots in nearly(finding_by(way, little, great, many // 2), size_of(great)):
                    if pair.is_finding(way, spots):
                        number = number_of(way, little, great, spots)
                        self.assertEqual(finding_by(way, little, great, number), spots)
                        told += 1
                    else:
                        self.assertRaises(NoFinding, number_of, way, little, great, spots)
                        refused += 1
        self.assertGreater(told, 500)
        self.assertGreater(refused, 500)

    def test_turned_about_and_of_other_ways(self):
        little, great = read("a(bb)"), read("a(b(bb)b)")
        for way, bad in (("row", [[0, 4, 1], [0, 2, 3], [0, 2, 4], [4, 1, 0], [1, 2, 3]]),
                         ("heap", [[0, 2, 3], [0, 2, 4], [0, 1, 1], [4, 1, 0]]),
                         ("farrow", [[0, 4, 1], [0, 1, 2], [0, 3, 3], [4, 1, 0]]),
                         ("farheap", [[0, 1, 2], [0, 2, 1], [0, 3, 3], [4, 1, 0]])):
            for spots in bad:
                self.assertRaises(NoFinding, number_of, way, little, great, spots)

    def test_of_anything(self):
        for way in WAYS:
            for little, great in ((leaf(), leaf()), (read("a(b)"), read("a(b)")), (leaf("b"), leaf())):
                for thing in NO_LISTS + ODD_THINGS + (little, (0, 1), [[0, 1]], [[0], [1]], [None]):
                    if not (thing == [0] and little == leaf() == great):
                        self.assertRaises(NoFinding, number_of, way, little, great, thing)

    def test_no_parts_within(self):
        little, great = read("a(bb)"), read("a(bbb)")
        for way in WAYS:
            self.assertEqual(number_of(way, little, great, [0, 1, 2]), 0)
            for at in range(3):
                for thing in NO_PARTS + (4, 5, 40):
                    spots = [0, 1, 2][:at] + [thing] + [0, 1, 2][at + 1:]
                    self.assertRaises(NoFinding, number_of, way, little, great, spots)

    def test_truths(self):
        for way in WAYS:
            self.assertEqual(number_of(way, read("a(b)"), read("a(b)"), [0, 1]), 0)
            for spots in ([0, True], [False, 1], [False, True]):
                self.assertRaises(NoFinding, number_of, way, read("a(b)"), read("a(b)"), spots)


class AllOfThem(unittest.TestCase):
    def test_just_three_hundred(self):
        little = read("a(bc)")
        found = [[1, b, c] for b in range(2, 17) for c in range(17, 37)]
        for way in WAYS:
            self.assertEqual(count_findings(way, little, just_many()), 300)
            self.assertEqual(quick(all_findings, way, little, just_many()), found)
        for great in (star(26), ("a", [leaf()] * 25)):
            found = [[0, one, other] for one in range(1, 26) for other in range(one + 1, 26)]
            self.assertEqual(all_findings("row", star(3), great), found)
            self.assertEqual(all_findings("farrow", star(3), great), found)

    def test_one_more(self):
        little, great = read("a(bc)"), just_many("a(bc)")
        self.assertEqual(size_of(great), 40)
        for way in WAYS:
            self.assertEqual(count_findings(way, little, great), 301)
            self.assertRaises(TooMany, all_findings, way, little, great)

    def test_very_many(self):
        for way in WAYS:
            with self.assertRaises(TooMany):
                quick(all_findings, way, star(7), star(40))

    def test_none(self):
        for way in WAYS:
            self.assertEqual(all_findings(way, leaf("b"), star(40)), [])
            self.assertEqual(all_findings(way, star(7, "a", "aaaaab"), star(40)), [])

    def test_not_reckoned_anew_at_each_finding(self):
        """All of many findings cost little more than one of them."""
        # Each finding by itself takes about as many calls as the table, and there are hundreds.
        rng = seeded("not anew")
        held = 0
        while held < 15:
            little, great = random_tree(rng, 7, "abc"), random_tree(rng, 40, "abc")
            for way in WAYS:
                many = count_findings(way, little, great)
                if 100 <= many <= 300:
                    held += 1
                    found = with_few_calls(120000, all_findings, way, little, great)
                    self.assertEqual(len(found), many)
                    self.assertEqual(found, sorted(found))
                    self.assertEqual(len({tuple(finding) for finding in found}), many)
                    self.assertTrue(all(is_finding(way, little, great, finding) for finding in found[::7]))


class TheAskersOwn(unittest.TestCase):
    def asked(self, way, little, great):
        many = count_findings(way, little, great)
        found = [finding_by(way, little, great, number) for number in sorted({0, many // 2, many - 1})
                 if 0 <= number < many]
        return [many, found, all_findings(way, little, great) if many <= 300 else None]

    def test_handed_in_stays(self):
        for little, great in pairs("counted stays", 30, (1, 3, 7), (7, 40)):
            kept = copy.deepcopy((little, great))
            for way in WAYS:
                for finding in self.asked(way, little, great)[1]:
                    spots = list(finding)
                    number_of(way, little, great, spots)
                    self.assertEqual(spots, finding)
                count_at(way, little, great, 0)
            self.assertEqual((little, great), kept)

    def test_told_again_the_same_and_anew(self):
        for little, great in pairs("counted again", 30, (1, 3, 5), (7, 20), ("a", "ab")):
            for way in WAYS:
                told = self.asked(way, little, great)
                kept = copy.deepcopy(told)
                self.assertFalse(share_a_list(told, self.asked(way, little, great), little, great))
                shatter(told)
                self.assertEqual(self.asked(way, little, great), kept)
