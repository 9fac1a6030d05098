"""Promise [9], and what [3] says of papers."""

import copy
import unittest

from tests.makers import all_trees, chain, leaf, random_tree, read, seeded, share_a_list, shatter, star
from tests.naive import Pair, children, shows
from tests.test_findings import NO_LISTS, pairs
from tests.test_great import branched, broom, comb
from twigfinds.findings import places_of
from twigfinds.pairings import nowhere_paper, nowhere_shows
from twigfinds.trees import size_of


def lies_nowhere(little, great):
    """By the words of [5], trying on."""
    return next(Pair(little, great).findings("heap"), None) is None


def great_pairs(seed, many):
    """Seven parts in forty: a star that is one leaf too great, twigs on stars, trees by chance."""
    rng = seeded(seed)
    for letters in ("aaaaab", "baaaaa", "aabaab"):
        for great in (star(40), comb(), broom(), branched()):
            yield star(7, "a", letters), great
    yield star(7), ("a", [star(6)] * 6 + [leaf()] * 3)
    yield star(7), ("b", [star(6), star(6), star(6), star(6), star(6)])
    yield read("a(b(c)b(c)b(c))"), ("a", [read("b(cc)"), read("b(cc)")] + [leaf("b")] * 33)
    yield read("a(a(a(a(a(a(b))))))"), chain("a" * 20)
    for turn in range(many):
        letters = rng.choice(("a", "ab", "abc", "abcdef"))
        yield random_tree(rng, 7, letters), random_tree(rng, 40, letters)


class ByHand(unittest.TestCase):
    def test_letters_unlike(self):
        self.assertEqual(nowhere_paper(leaf("a"), leaf("b")), [(0, 0, [])])
        self.assertIs(nowhere_shows(leaf("a"), leaf("b"), [(0, 0, [])]), True)

    def test_too_few_children(self):
        little, great = read("a(bb)"), read("a(bc)")
        for paper, so in (
                ([(0, 0, [1, 2]), (0, 1, []), (0, 2, []), (1, 2, []), (2, 2, [])], True),
                # Of the spots for both, both are left as long as one is not shown for both.
                ([(0, 0, [1, 2]), (0, 1, []), (0, 2, []), (1, 2, [])], False),
                ([(0, 0, [1, 2]), (0, 1, []), (0, 2, []), (2, 2, [])], False),
                ([(0, 0, [1]), (0, 1, []), (0, 2, []), (1, 2, []), (2, 2, [])], False),
                ([(0, 0, []), (0, 1, []), (0, 2, []), (1, 2, []), (2, 2, [])], False),
                ([(0, 0, [2, 1]), (0, 1, []), (0, 2, []), (1, 2, []), (2, 2, [])], False),
                ([(0, 0, [1, 1]), (0, 1, []), (0, 2, []), (1, 2, []), (2, 2, [])], False),
                ([(0, 0, [1, 2]), (0, 1, []), (1, 2, []), (2, 2, [])], False),
                ([(0, 1, []), (0, 2, []), (1, 2, []), (2, 2, [])], False),
                ([(0, 1, []), (0, 0, [1, 2]), (0, 2, []), (1, 2, []), (2, 2, [])], False),
                ([(0, 0, [1, 2]), (0, 1, []), (0, 1, []), (0, 2, []), (1, 2, []), (2, 2, [])], False),
                ([(0, 0, [1, 2]), (0, 1, []), (0, 2, []), (1, 1, []), (1, 2, []), (2, 2, [])], False)):
            self.assertIs(nowhere_shows(little, great, paper), so, paper)
            self.assertIs(shows(little, great, paper), so, paper)

    def test_some_where_letters_are_unlike(self):
        # Children may be named where the letters are unlike, if they are too many.
        little, great = read("a(bb)"), read("c(b)")
        self.assertIs(nowhere_shows(little, great, [(0, 0, [1, 2]), (0, 1, [1])]), True)
        self.assertIs(nowhere_shows(little, great, [(0, 0, [1]), (0, 1, [1])]), False)
        self.assertIs(nowhere_shows(little, great, [(0, 0, []), (0, 1, [])]), True)

    def test_one_child_is_enough(self):
        little, great = read("a(bc)"), read("a(bb)")
        paper = [(0, 0, [2]), (0, 1, []), (0, 2, []), (2, 1, []), (2, 2, [])]
        self.assertIs(nowhere_shows(little, great, paper), True)
        self.assertIs(nowhere_shows(little, great, paper[:-1]), False)

    def test_a_tuple_that_is_not_good_spoils_it(self):
        little, great = read("a(bc)"), read("d(bc)")
        paper = [(0, 0, []), (0, 1, []), (0, 2, [])]
        self.assertIs(nowhere_shows(little, great, paper), True)
        self.assertIs(nowhere_shows(little, great, paper + [(1, 2, [])]), True)
        self.assertIs(nowhere_shows(little, great, paper + [(2, 2, [])]), False)

    def test_none_where_it_lies(self):
        for little, great in (("a", "a"), ("a(bc)", "a(cb)"), ("a(b)", "c(da(bb))"), ("a(b(c)b)", "a(bb(dc))")):
            self.assertIsNone(nowhere_paper(read(little), read(great)))

    def test_told_where_it_lies_by_gaps_only(self):
        self.assertIsNotNone(nowhere_paper(read("a(c)"), read("a(b(c))")))

    def test_kinds(self):
        paper = nowhere_paper(read("a(bb)"), read("a(bc)"))
        self.assertIs(type(paper), list)
        for entry in paper:
            self.assertIs(type(entry), tuple)
            self.assertEqual([type(thing) for thing in entry], [int, int, list])
            self.assertTrue(all(type(kid) is int for kid in entry[2]))


class Told(unittest.TestCase):
    """A paper just where it lies nowhere, and one that the words of [9] let by."""

    def hold(self, little, great, nowhere):
        paper = nowhere_paper(little, great)
        self.assertEqual(paper is not None, nowhere, (little, great))
        if nowhere:
            self.assertTrue(shows(little, great, paper), (little, great, paper))
            self.assertIs(nowhere_shows(little, great, paper), True)
        return nowhere

    def test_all_small_trees_of_two_letters(self):
        littles = [tree for size in (1, 2, 3) for tree in all_trees(size, "ab") if tree[0] == "a"]
        for little in littles:
            for great in [tree for size in (1, 2, 3, 4) for tree in all_trees(size, "ab")]:
                self.hold(little, great, lies_nowhere(little, great))

    def test_all_small_trees_of_one_letter(self):
        for little in [tree for size in (1, 2, 3, 4, 5) for tree in all_trees(size, "a")]:
            for great in [tree for size in (1, 2, 3, 4, 5, 6) for tree in all_trees(size, "a")]:
                self.hold(little, great, lies_nowhere(little, great))

    def test_by_chance(self):
        found = [self.hold(little, great, lies_nowhere(little, great))
                 for little, great in pairs("papers", 400, (3, 4, 5, 6, 7), (5, 8, 12), ("a", "ab", "abc"))]
        self.assertGreater(found.count(True), 100)
        self.assertGreater(found.count(False), 100)

    def test_great(self):
        found = [self.hold(little, great, not places_of("heap", little, great))
                 for little, great in great_pairs("great papers", 60)]
        self.assertGreater(found.count(True), 40)
        self.assertGreater(found.count(False), 5)

    def test_crowded_in_many_ways(self):
        """Twigs of a few kinds on a star that has one too few of some of them."""
        rng = seeded("crowded")
        twigs = ["b", "b(c)", "b(d)", "b(cd)", "b(cc)"]
        found = []
        for turn in range(300):
            little = read("a(" + "".join(rng.choice(twigs) for kid in range(rng.randint(2, 4))) + ")")
            great = read("a(" + "".join(rng.choice(twigs) for kid in range(rng.randint(2, 5))) + ")")
            found.append(self.hold(little, great, lies_nowhere(little, great)))
        self.assertGreater(found.count(True), 50)
        self.assertGreater(found.count(False), 50)

    def test_one_tree_at_several_places(self):
        twig = ("b", [("c", []), ("d", [])])
        kids = [twig, ("e", []), twig]
        great = ("a", [twig, ("f", kids), ("g", kids), twig])
        for little in (("a", [twig, twig, twig]), ("f", [twig, twig]), ("g", [("e", []), ("e", [])]), ("e", [twig])):
            self.hold(little, great, lies_nowhere(little, great))


def changed_lists(rng, little, i, some):
    """Lists in the place of some: with children out, more, none, turned about, twice or strange."""
    kids = children(little, i)
    yield []
    yield list(kids)
    yield some[::-1]
    yield some + some[-1:]
    yield some[:1] + some
    yield some[1:]
    yield some[:-1]
    yield sorted(some + [rng.randint(0, 7)])
    yield sorted(set(some + [rng.choice(kids)])) if kids else [i]
    yield some + [rng.choice((-1, 0, 40, 10 ** 25))]
    yield [kid + 1 for kid in some]
    yield [i]


def changed_papers(rng, little, great, paper):
    """Papers that differ from this one at a place or two."""
    at = rng.randrange(len(paper))
    other = rng.randrange(len(paper))
    i, v, some = paper[at]
    ahead, behind = paper[:at], paper[at + 1:]
    yield ahead + behind
    yield ahead + [paper[at], paper[at]] + behind
    yield sorted(paper + [(i, v, sorted(children(little, i))[:1])])
    yield paper[::-1]
    yield paper[1:]
    yield paper[:-1]
    yield []
    turned = list(paper)
    turned[at], turned[other] = turned[other], turned[at]
    yield turned
    yield paper + [(size_of(little), v, [])]
    yield sorted(paper + [(i, size_of(great), [])])
    yield [(-1, v, [])] + paper
    yield sorted(paper + [(i, -1, [])])
    yield sorted(paper + [(10 ** 25, v, [])])
    more = (rng.randrange(size_of(little)), rng.randrange(size_of(great)), [])
    yield sorted(paper + [more])
    yield sorted([entry for entry in paper if entry[:2] != more[:2]] + [more])
    yield ahead + [(i, v + 1, some)] + behind
    yield ahead + [(i + 1, v, some)] + behind
    yield ahead + [(v, i, some)] + behind
    yield [entry for entry in paper if entry[0] != i]
    yield [entry for entry in paper if entry[1] != v]
    for changed in changed_lists(rng, little, i, some):
        yield ahead + [(i, v, changed)] + behind


class Judged(unittest.TestCase):
    """True just where the words of [9] have it so."""

    def hold(self, little, great, paper):
        so = shows(little, great, paper)
        self.assertIs(nowhere_shows(little, great, paper), so, (little, great, paper))
        return so

    def test_changed_papers(self):
        rng = seeded("changed papers")
        judged = []
        for little, great in pairs("to change", 250, (2, 3, 4, 5, 7), (3, 5, 8), ("a", "ab", "abc")):
            paper = nowhere_paper(little, great)
            if paper is not None:
                judged.extend(self.hold(little, great, changed)
                              for changed in changed_papers(rng, little, great, paper))
        self.assertGreater(judged.count(True), 500)
        self.assertGreater(judged.count(False), 2000)

    def test_changed_great_papers(self):
        rng = seeded("changed great papers")
        judged = []
        for little, great in great_pairs("to change, great", 10):
            paper = nowhere_paper(little, great)
            if paper is not None:
                papers = list(changed_papers(rng, little, great, paper))
                judged.extend(self.hold(little, great, changed) for changed in papers[::3])
        self.assertGreater(judged.count(True), 20)
        self.assertGreater(judged.count(False), 50)

    def test_thinned_out(self):
        """Tuples that are of no use taken out one by one, as long as the paper shows it."""
        rng = seeded("thinned out")
        shorter = 0
        for little, great in pairs("to thin out", 60, (3, 4, 5), (4, 6), ("ab", "abc")):
            paper = nowhere_paper(little, great)
            for entry in rng.sample(paper, len(paper)) if paper else ():
                fewer = [one for one in paper if one != entry]
                if self.hold(little, great, fewer):
                    paper = fewer
                    shorter += 1
        self.assertGreater(shorter, 50)

    def test_no_paper_shows_what_is_not_so(self):
        rng = seeded("not so")
        tried = 0
        for little, great in pairs("where it lies", 150, (1, 2, 3, 4), (3, 4, 6), ("a", "ab")):
            if lies_nowhere(little, great):
                continue
            for turn in range(20):
                paper = [(i, v, sorted(rng.sample(kids, rng.randint(0, len(kids)))))
                         for i in range(size_of(little)) for kids in [children(little, i)]
                         for v in range(size_of(great)) if i == 0 or rng.random() < 0.7]
                tried += 1
                self.assertIs(nowhere_shows(little, great, paper), False, (little, great, paper))
        self.assertGreater(tried, 500)

    def test_every_paper_of_two_small_trees(self):
        """Of each i and v no tuple, or one with any children: all papers there are, for trees of two and three."""
        for little, great in (("a(b)", "a(c)"), ("a(a)", "a(b)"), ("a(b)", "b(a)"), ("a(a)", "a(a)"),
                              ("a(bb)", "a(b)"), ("a(b)", "a(b)"), ("a(ab)", "a(a)"), ("a(bc)", "b(c)")):
            little, great = read(little), read(great)
            papers = [[]]
            for i in range(size_of(little)):
                kids = children(little, i)
                lists = [[kid for at, kid in enumerate(kids) if bits >> at & 1] for bits in range(1 << len(kids))]
                for v in range(size_of(great)):
                    papers = [paper + more for paper in papers
                              for more in [[]] + [[(i, v, list(some))] for some in lists]]
            judged = [self.hold(little, great, paper) for paper in papers]
            self.assertEqual(any(judged), lies_nowhere(little, great))

    def test_truths_and_other_shapes_show_nothing(self):
        little, great = read("a(bb)"), read("a(bc)")
        paper = [(0, 0, [1, 2]), (0, 1, []), (0, 2, []), (1, 2, []), (2, 2, [])]
        self.assertIs(nowhere_shows(little, great, paper), True)
        for thing in NO_LISTS + (tuple(paper), [list(entry) for entry in paper], paper + [None], [None], [()],
                                 [(False, 0, [1, 2])] + paper[1:], [(0, False, [1, 2])] + paper[1:],
                                 [(0, 0, [True, 2])] + paper[1:], [(0, 0, (1, 2))] + paper[1:],
                                 paper[:-1] + [(2, 2, [], [])], paper[:-1] + [(2, 2)], paper[:-1] + [(2, 2, "")]):
            self.assertIs(nowhere_shows(little, great, thing), False, thing)


class TheAskersOwn(unittest.TestCase):
    def test_handed_in_stays(self):
        for little, great in pairs("papers stay", 40, (2, 3, 7), (7, 40), ("ab", "abc")):
            kept = copy.deepcopy((little, great))
            paper = nowhere_paper(little, great)
            told = copy.deepcopy(paper)
            if paper is not None:
                nowhere_shows(little, great, paper)
            self.assertEqual((little, great, paper), kept + (told,))

    def test_told_again_the_same_and_anew(self):
        told = 0
        for little, great in pairs("papers again", 60, (2, 3, 7), (7, 40), ("ab", "abc")):
            paper = nowhere_paper(little, great)
            kept = copy.deepcopy(paper)
            self.assertFalse(share_a_list(paper, nowhere_paper(little, great), little, great))
            shatter(paper)
            self.assertEqual(nowhere_paper(little, great), kept)
            told += kept is not None
        self.assertGreater(told, 20)
