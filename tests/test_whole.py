"""Promise [3] over the whole program: all of it tells what the list of all findings has."""

import copy
import inspect
import unittest

from tests.makers import (WAYS, all_trees, holds_a_list_of, leaf, random_tree, read, seeded, share_a_list, shatter)
from tests.naive import Pair, most_in_two, shows
from tests.test_texts import written
from twigfinds import common, counted, desk, errors, findings, pairings, texts, trees, watch
from twigfinds.common import common_size, common_tree
from twigfinds.counted import all_findings, count_at, count_findings, finding_by, number_of
from twigfinds.desk import Desk
from twigfinds.errors import NoFinding, NoNumber
from twigfinds.findings import first_finding, is_finding, lies_at, places_of
from twigfinds.pairings import nowhere_paper, nowhere_shows
from twigfinds.texts import read_tree, show_tree
from twigfinds.trees import above, children_at, is_tree, letter_at, part_at, size_of
from twigfinds.watch import Watch

WIDER = (("row", "heap"), ("farrow", "farheap"), ("row", "farrow"), ("heap", "farheap"))


def some_pairs(name, turns, little_sizes=(1, 2, 3, 4), great_sizes=(1, 2, 3, 5, 7)):
    rng = seeded(name)
    for turn in range(turns):
        letters = rng.choice(("a", "ab", "abc"))
        yield random_tree(rng, rng.choice(little_sizes), letters), random_tree(rng, rng.choice(great_sizes), letters)


class AllTellTheSame(unittest.TestCase):
    def test_all_small_trees(self):
        greats = [tree for size in (1, 2, 3) for tree in all_trees(size, "ab")]
        littles = [tree for size in (1, 2) for tree in all_trees(size, "ab")] + all_trees(3, "a")
        for great in greats:
            for little in littles:
                self.whole(little, great)

    def test_by_chance(self):
        for little, great in some_pairs("all tell the same", 60):
            self.whole(little, great)

    def whole(self, little, great):
        pair = Pair(little, great)
        listed = {way: list(pair.findings(way)) for way in WAYS}
        for way in WAYS:
            self.assertEqual(listed[way], sorted(listed[way]))
            self.told_of_findings(way, little, great, listed[way])
            self.told_by_number(way, little, great, listed[way])
            self.told_by_watch_and_desk(way, little, great, listed[way])
        for one, other in WIDER:
            self.assertTrue(all(finding in listed[other] for finding in listed[one]))
            self.assertLessEqual(set(places_of(one, little, great)), set(places_of(other, little, great)))
        self.told_by_paper(little, great, listed["heap"])
        self.told_of_two(little, great)

    def told_of_findings(self, way, little, great, listed):
        heads = sorted({finding[0] for finding in listed})
        self.assertEqual(places_of(way, little, great), heads)
        self.assertEqual([lies_at(way, little, great, v) for v in range(size_of(great))],
                         [v in heads for v in range(size_of(great))])
        self.assertEqual(first_finding(way, little, great), (listed + [None])[0])
        self.assertTrue(all(is_finding(way, little, great, finding) for finding in listed))

    def told_by_number(self, way, little, great, listed):
        self.assertEqual(count_findings(way, little, great), len(listed))
        heads = [finding[0] for finding in listed]
        self.assertEqual([count_at(way, little, great, v) for v in range(size_of(great))],
                         [heads.count(v) for v in range(size_of(great))])
        self.assertEqual(all_findings(way, little, great), listed)
        for number, finding in enumerate(listed):
            self.assertEqual(finding_by(way, little, great, number), finding)
            self.assertEqual(number_of(way, little, great, finding), number)
        self.assertRaises(NoNumber, finding_by, way, little, great, len(listed))
        self.assertRaises(NoFinding, number_of, way, little, great, [0] * size_of(little) + [0])

    def told_by_watch_and_desk(self, way, little, great, listed):
        heads = sorted({finding[0] for finding in listed})
        held = Watch(way, little, great)
        self.assertEqual((held.tree(), held.places(), held.count()), (great, heads, len(listed)))
        at_desk = Desk()
        at_desk.say("tree l " + show_tree(little))
        at_desk.say("tree g " + show_tree(great))
        told = [at_desk.say(f"{verb} {way} l g") for verb in ("places", "first", "count")]
        first = [str(spot) for spot in (listed + [["none"]])[0]]
        self.assertEqual(told, [" ".join(str(v) for v in heads) or "none", " ".join(first), str(len(listed))])
        if way == "heap":
            self.assertEqual(at_desk.say("nowhere l g"), "no" if listed else "yes")
        if way in ("row", "heap"):
            self.assertEqual(at_desk.say(f"both {way} l g"), str(most_in_two(way, little, great)))

    def told_by_paper(self, little, great, listed):
        paper = nowhere_paper(little, great)
        self.assertEqual(paper is None, listed != [])
        if paper is None:
            everything = [(i, v, []) for i in range(size_of(little)) for v in range(size_of(great))]
            self.assertFalse(nowhere_shows(little, great, everything))
        else:
            self.assertTrue(nowhere_shows(little, great, paper))
            self.assertTrue(shows(little, great, paper))

    def told_of_two(self, one, other):
        for way in ("row", "heap"):
            most = most_in_two(way, one, other)
            tree = common_tree(way, one, other)
            self.assertEqual(common_size(way, one, other), most)
            if most == 0:
                self.assertIsNone(tree)
            else:
                self.assertEqual(size_of(tree), most)
                self.assertTrue(lies_at(way, tree, one, 0) and lies_at(way, tree, other, 0))


class LeavesComeAndGo(unittest.TestCase):
    def test_watch_desk_and_all_else(self):
        """One great tree at a Watch of each way and at a desk: all tell the same behind each leaf."""
        rng = seeded("leaves come and go")
        for little, great in some_pairs("leaves come and go", 12):
            watches = {way: Watch(way, little, great) for way in WAYS}
            at_desk = Desk()
            at_desk.say("tree l " + show_tree(little))
            at_desk.say("tree g " + show_tree(great))
            for step in range(10):
                now = read_tree(at_desk.say("show g"))
                leaves = [k for k in range(1, size_of(now)) if not children_at(now, k)]
                if leaves and (rng.random() < 0.4 or size_of(now) > 8):
                    deed, args = "take", (rng.choice(leaves),)
                else:
                    deed, args = "put", (rng.randrange(size_of(now)), rng.choice("abc"))
                at_desk.say(" ".join([deed, "g"] + [str(word) for word in args]))
                for way, held in watches.items():
                    getattr(held, deed)(*args)
                self.all_as_anew(little, watches, at_desk)

    def all_as_anew(self, little, watches, at_desk):
        for way, held in watches.items():
            now = held.tree()
            self.assertEqual(written(now), at_desk.say("show g"))
            listed = list(Pair(little, now).findings(way))
            heads = sorted({finding[0] for finding in listed})
            self.assertEqual((held.places(), held.count()), (heads, len(listed)))
            self.assertEqual(at_desk.say(f"count {way} l g"), str(len(listed)))
            self.assertEqual(at_desk.say(f"places {way} l g"), " ".join(str(v) for v in heads) or "none")


def of_one_tree(tree):
    """What all functions that are asked of one tree tell of it."""
    told = [is_tree(tree), size_of(tree), show_tree(tree)]
    for k in range(size_of(tree)):
        told.append([letter_at(tree, k), part_at(tree, k), above(tree, k), children_at(tree, k)])
    return told


def of_two_trees(little, great):
    """What all functions that are asked of two trees tell of them."""
    told = []
    for way in WAYS:
        listed = all_findings(way, little, great)
        told.append([places_of(way, little, great), first_finding(way, little, great), listed])
        told.append([count_findings(way, little, great), Watch(way, little, great).tree()])
        told.append([Watch(way, little, great).places(), Watch(way, little, great).count()])
        for v in range(size_of(great)):
            told.append([lies_at(way, little, great, v), count_at(way, little, great, v)])
            told.append([Watch(way, little, great).put(v, "a")])
        for number, finding in enumerate(listed):
            told.append([finding_by(way, little, great, number), number_of(way, little, great, finding),
                         is_finding(way, little, great, finding)])
    paper = nowhere_paper(little, great)
    told.append([paper, nowhere_shows(little, great, paper or [])])
    for way in ("row", "heap"):
        told.append([common_tree(way, little, great), common_size(way, little, great)])
    return told


class TheAskersOwn(unittest.TestCase):
    def test_one_tree_at_several_places(self):
        rng = seeded("one tree at several places")
        for turn in range(15):
            twig = random_tree(rng, rng.choice((1, 2)), "ab")
            kids = [twig, rng.choice((twig, leaf("b")))]
            little = (rng.choice("ab"), [twig, twig][:turn % 3])
            great = ("a", [twig, ("b", kids), ("a", kids)][turn % 2:])
            plain_little, plain_great = read(written(little)), read(written(great))
            kept = copy.deepcopy((little, great, kids))
            self.assertEqual(of_one_tree(great), of_one_tree(plain_great))
            self.assertEqual(of_two_trees(little, great), of_two_trees(plain_little, plain_great))
            self.assertEqual((little, great, kids), kept)
            self.assertFalse(holds_a_list_of(of_two_trees(little, great), [little, great]))
            self.assertFalse(share_a_list(part_at(great, 0), part_at(great, 0), Watch("row", little, great).tree()))

    def test_told_again_the_same_and_anew(self):
        for little, great in some_pairs("told again", 15, great_sizes=(2, 3, 4)):
            kept = copy.deepcopy((little, great))
            told = of_two_trees(little, great), of_one_tree(great)
            like = copy.deepcopy(told)
            again = of_two_trees(little, great), of_one_tree(great)
            self.assertEqual(told, again)
            self.assertFalse(share_a_list(told, again, little, great))
            shatter(told)
            self.assertEqual((of_two_trees(little, great), of_one_tree(great)), like)
            self.assertEqual((little, great), kept)


class Interface(unittest.TestCase):
    def test_names_and_arguments(self):
        """By their places, as the document lists them."""
        listed = {
            trees: "is_tree(thing) size_of(tree) letter_at(tree,k) part_at(tree,k) above(tree,k) children_at(tree,k)",
            findings: "is_finding(way,little,great,thing) places_of(way,little,great) "
                      "lies_at(way,little,great,part) first_finding(way,little,great)",
            counted: "count_findings(way,little,great) count_at(way,little,great,part) "
                     "finding_by(way,little,great,number) number_of(way,little,great,thing) "
                     "all_findings(way,little,great)",
            pairings: "nowhere_paper(little,great) nowhere_shows(little,great,paper)",
            common: "common_tree(way,one,other) common_size(way,one,other)",
            texts: "show_tree(tree) read_tree(text)",
            watch: "Watch(way,little,great)",
            desk: "Desk()",
            Watch: "put(self,part,letter) take(self,part) tree(self) places(self) count(self)",
            Desk: "say(self,row) names(self)",
        }
        for holder, row in listed.items():
            for entry in row.split(" "):
                name, arguments = entry[:-1].split("(")
                thing = vars(holder)[name]
                self.assertEqual(",".join(inspect.signature(thing).parameters), arguments, name)
                self.assertEqual(thing.__module__.split(".")[0], "twigfinds")

    def test_refusals_are_value_errors(self):
        for name in ("NoTree", "NoPart", "NoWay", "NoNumber", "NoFinding", "TooMany", "NoLetter", "NoText", "NoName",
                     "NoRow"):
            self.assertEqual(vars(errors)[name].__mro__[1:3], (errors.TwigError, ValueError))
