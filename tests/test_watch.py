"""Promise [11], and what [2] and [3] say of a Watch."""

import copy
import unittest

from tests.makers import (ALPHABET, ODD_THINGS, WAYS, all_trees, chain, chain_to, holds_a_list_of, leaf, random_tree,
                          read, seeded, share_a_list, shatter, star)
from tests.naive import Pair, parts
from tests.test_great import branched, broom, comb
from twigfinds.counted import count_findings
from twigfinds.errors import NoLetter, NoPart, NoTree, NoWay, TooMany, TwigError
from twigfinds.findings import places_of
from twigfinds.trees import size_of
from twigfinds.watch import Watch

NO_PARTS = ODD_THINGS + (-1, -2, -40, "2", b"0", (0,), {0: 0}, {0})
NO_LETTERS = ("", "A", "Z", "ab", "aa", "abc", "1", " ", "a ", " a", "(", "`", "{", "~", "\n", "\t", "a\n", None, True,
              False, 0, 1, 97, [], ["a"], (), ("a",), ("a", []), {}, {"a": 1}, {"a"}, b"a", b"", object())


class Node:
    def __init__(self, letter, children):
        self.letter = letter
        self.children = children


def grown(tree):
    return Node(tree[0], [grown(child) for child in tree[1]])


class Grove:
    """A great tree whose parts are told apart whatever their numbers, for the words of [11] one by one."""

    def __init__(self, tree):
        self.root = grown(tree)

    def nodes(self, node=None):
        node = node or self.root
        return [node] + [inner for child in node.children for inner in self.nodes(child)]

    def tree(self, node=None):
        node = node or self.root
        return (node.letter, [self.tree(child) for child in node.children])

    def upper(self, k):
        nodes = self.nodes()
        return [at for at, node in enumerate(nodes) if nodes[k] in node.children][0]

    def leaves(self):
        return [k for k, node in enumerate(self.nodes()) if k > 0 and not node.children]

    def put(self, k, letter):
        self.nodes()[k].children.append(Node(letter, []))

    def take(self, k):
        self.nodes()[self.upper(k)].children.remove(self.nodes()[k])


class Held:
    """A Watch beside a Grove on which the same is done, both told of at each deed.

    places and count are told anew of the tree that stands there: by trying all findings where the
    trees are small, else by the other functions of the package, which other tests hold against all findings.
    """

    def __init__(self, test, way, little, great, small=True):
        self.test = test
        self.way = way
        self.little = copy.deepcopy(little)
        self.small = small
        self.grove = Grove(great)
        self.watch = Watch(way, little, great)
        self.check()

    def anew(self):
        tree = self.grove.tree()
        if not self.small:
            return places_of(self.way, self.little, tree), count_findings(self.way, self.little, tree)
        heads = [finding[0] for finding in Pair(self.little, tree).findings(self.way)]
        return sorted(set(heads)), len(heads)

    def check(self):
        places, count = self.anew()
        self.test.assertEqual((self.watch.tree(), self.watch.places(), self.watch.count()),
                              (self.grove.tree(), places, count), (self.way, self.little))

    def lying(self):
        nodes = self.grove.nodes()
        return [nodes[v] for v in self.anew()[0]]

    def do(self, deed, *args):
        """Do put or take on both; what the Watch told of it, held against the words."""
        nodes, lay = self.grove.nodes(), self.lying()
        getattr(self.grove, deed)(*args)
        nodes_behind, lies = self.grove.nodes(), self.lying()
        gone = [v for v, node in enumerate(nodes) if node in lay and node not in lies]
        come = [v for v, node in enumerate(nodes_behind) if node in lies and node not in lay]
        told = getattr(self.watch, deed)(*args)
        self.test.assertEqual(told, (gone, come), (self.way, self.little, self.grove.tree(), deed, args))
        self.check()
        return told

    def put(self, k, letter):
        return self.do("put", k, letter)

    def take(self, k):
        return self.do("take", k)

    def size(self):
        return len(self.grove.nodes())

    def some_deed(self, rng, letters, most=40):
        """A put or a take by chance, of the first part, the last one, one where little lies, or any."""
        leaves = self.grove.leaves()
        if leaves and (self.size() >= most or rng.random() < 0.45):
            return self.take(rng.choice(leaves))
        spots = [0, self.size() - 1, rng.randrange(self.size())] + self.watch.places()[-1:]
        return self.put(rng.choice(spots), rng.choice(letters))


class ByHand(unittest.TestCase):
    def test_a_leaf_makes_it_lie(self):
        watch = Watch("row", read("a(b)"), read("a(ca)"))
        self.assertEqual((watch.places(), watch.count()), ([], 0))
        self.assertEqual(watch.put(2, "b"), ([], [2]))
        self.assertEqual((watch.tree(), watch.places(), watch.count()), (read("a(ca(b))"), [2], 1))
        self.assertEqual(watch.put(0, "b"), ([], [0]))
        self.assertEqual((watch.tree(), watch.places(), watch.count()), (read("a(ca(b)b)"), [0, 2], 2))

    def test_the_last_child_behind_all_beneath(self):
        watch = Watch("row", leaf("x"), read("a(b(c(d)e)f)"))
        self.assertEqual(watch.put(1, "x"), ([], [5]))
        self.assertEqual(watch.tree(), read("a(b(c(d)ex)f)"))
        self.assertEqual(watch.put(2, "x"), ([], [4]))
        self.assertEqual(watch.tree(), read("a(b(c(dx)ex)f)"))
        self.assertEqual(watch.put(0, "x"), ([], [8]))
        self.assertEqual(watch.tree(), read("a(b(c(dx)ex)fx)"))
        self.assertEqual(watch.places(), [4, 6, 8])

    def test_other_numbers_are_no_change(self):
        watch = Watch("row", leaf("b"), read("a(cbd)"))
        self.assertEqual((watch.places(), watch.put(1, "x"), watch.places()), ([2], ([], []), [3]))
        self.assertEqual((watch.put(0, "x"), watch.places()), (([], []), [3]))
        self.assertEqual((watch.take(2), watch.places()), (([], []), [2]))
        self.assertEqual(watch.tree(), read("a(cbdx)"))

    def test_a_part_taken_away_counts_as_gone(self):
        watch = Watch("heap", leaf("b"), read("a(bbb)"))
        self.assertEqual((watch.take(1), watch.places(), watch.count()), (([1], []), [1, 2], 2))
        self.assertEqual((watch.take(2), watch.places(), watch.count()), (([2], []), [1], 1))
        self.assertEqual((watch.take(1), watch.places(), watch.count()), (([1], []), [], 0))
        self.assertEqual(watch.tree(), leaf("a"))

    def test_gone_by_old_numbers_and_come_by_new_ones(self):
        watch = Watch("farrow", read("a(b)"), read("a(ca(d)a)"))
        self.assertEqual((watch.put(3, "b"), watch.places()), (([], [0, 2]), [0, 2]))
        self.assertEqual(watch.tree(), read("a(ca(d(b))a)"))
        self.assertEqual((watch.put(5, "b"), watch.places()), (([], [5]), [0, 2, 5]))
        self.assertEqual((watch.take(1), watch.places()), (([], []), [0, 1, 4]))
        self.assertEqual((watch.take(3), watch.places()), (([1], []), [0, 3]))
        self.assertEqual((watch.take(4), watch.places()), (([0, 3], []), []))

    def test_a_part_beneath_gone_with_those_above(self):
        watch = Watch("farheap", read("a(b)"), read("a(a(a(b)))"))
        self.assertEqual(watch.take(3), ([0, 1, 2], []))
        self.assertEqual(watch.put(2, "b"), ([], [0, 1, 2]))

    def test_each_way_by_itself(self):
        told = []
        for way in WAYS:
            watch = Watch(way, read("a(bc)"), read("a(d(c))"))
            told.append([watch.put(0, "b"), watch.put(0, "c"), watch.take(4), watch.put(2, "b"), watch.put(1, "b")])
        none = ([], [])
        self.assertEqual(told, [[none, ([], [0]), ([0], []), none, none],
                                [none, ([], [0]), ([0], []), none, none],
                                [none, ([], [0]), ([0], []), none, none],
                                [([], [0]), none, none, none, none]])

    def test_one_part_alone(self):
        for way in WAYS:
            watch = Watch(way, leaf("a"), leaf("a"))
            self.assertEqual((watch.tree(), watch.places(), watch.count()), (leaf("a"), [0], 1))
            self.assertEqual(watch.put(0, "a"), ([], [1]))
            self.assertEqual(watch.put(1, "a"), ([], [2]))
            self.assertEqual(watch.put(0, "b"), ([], []))
            self.assertEqual((watch.places(), watch.count()), ([0, 1, 2], 3))

    def test_kinds(self):
        for way in WAYS:
            watch = Watch(way, read("a(a)"), read("a(a)"))
            for told in (watch.put(1, "a"), watch.put(0, "b"), watch.take(2), watch.take(2)):
                self.assertIs(type(told), tuple)
                self.assertEqual([type(numbers) for numbers in told], [list, list])
                self.assertTrue(all(type(v) is int for numbers in told for v in numbers))
            self.assertEqual([type(watch.tree()), type(watch.places()), type(watch.count())], [tuple, list, int])
            self.assertTrue(all(type(v) is int for v in watch.places()))

    def test_methods_stand_in_the_class_itself(self):
        for name in ("put", "take", "tree", "places", "count"):
            self.assertIn(name, vars(Watch))


class AsAnew(unittest.TestCase):
    def test_every_put_and_take_on_all_small_trees(self):
        for size in (1, 2, 3):
            for great in all_trees(size, "ab"):
                for little in (leaf("a"), read("a(b)"), read("a(ab)"), read("a(ba)"), read("a(a(b))")):
                    for way in WAYS:
                        self.every_deed(way, little, great)

    def every_deed(self, way, little, great):
        for k in range(size_of(great)):
            for letter in "abz":
                held = Held(self, way, little, great)
                ahead = held.watch.places()
                gone, come = held.put(k, letter)
                self.assertEqual(gone, [])
                fresh = [at for at, node in enumerate(held.grove.nodes())
                         if node == held.grove.nodes()[k].children[-1]][0]
                self.assertEqual(held.take(fresh), (come, []))
                self.assertEqual((held.watch.tree(), held.watch.places()), (great, ahead))
        for k in Grove(great).leaves():
            Held(self, way, little, great).take(k)

    def test_deeds_by_chance_on_small_trees(self):
        rng = seeded("deeds by chance on small trees")
        for turn in range(40):
            letters = rng.choice(("a", "ab", "abc"))
            little, great = random_tree(rng, rng.randint(1, 4), letters), random_tree(rng, rng.randint(1, 7), letters)
            for way in WAYS:
                held = Held(self, way, little, great)
                for deed in range(12):
                    held.some_deed(rng, letters + "z", most=9)

    def test_sixty_deeds(self):
        rng = seeded("sixty deeds")
        for turn in range(3):
            letters = ("a", "ab", "abc")[turn]
            for way in WAYS:
                little, great = random_tree(rng, rng.randint(2, 7), letters), random_tree(rng, 25, letters)
                held = Held(self, way, little, great, small=False)
                for deed in range(60):
                    held.some_deed(rng, letters)

    def test_sixty_puts_and_takes_of_one_leaf(self):
        for way in WAYS:
            watch = Watch(way, read("a(bb)"), read("a(ba)"))
            for turn in range(30):
                self.assertEqual(watch.put(0, "b"), ([], [0]))
                self.assertEqual((watch.places(), watch.count()), ([0], 1 if way in ("row", "farrow") else 2))
                self.assertEqual(watch.take(3), ([0], []))
                self.assertEqual((watch.tree(), watch.places(), watch.count()), (read("a(ba)"), [], 0))

    def test_from_one_part_to_forty_and_back(self):
        rng = seeded("from one part to forty and back")
        for way in WAYS:
            held = Held(self, way, read("a(ab)"), leaf("a"), small=False)
            while held.size() < 40:
                held.put(rng.randrange(held.size()), rng.choice("ab"))
            self.assertRaises(TooMany, held.watch.put, 0, "a")
            held.check()
            held = Held(self, way, read("a(ab)"), held.watch.tree(), small=False)
            while held.size() > 1:
                held.take(rng.choice(held.grove.leaves()))
            self.assertRaises(NoPart, held.watch.take, 0)


class Great(unittest.TestCase):
    def test_forty_parts_and_twenty_deep(self):
        rng = seeded("forty parts and twenty deep")
        for great in (star(40), comb(), broom(), branched(), chain("a" * 20), random_tree(rng, 40, "ab")):
            for little in (star(7), chain("a" * 7), read("a(aa(ab))"), star(4, "a", "bab")):
                for way in WAYS:
                    held = Held(self, way, little, great, small=False)
                    for deed in range(5):
                        held.some_deed(rng, "abz")

    def test_the_tip_of_twenty(self):
        for way in WAYS:
            held = Held(self, way, chain("a" * 6 + "b"), chain("a" * 19), small=False)
            near = way in ("row", "heap")
            self.assertEqual(held.put(17, "b"), ([], [12] if near else list(range(13))))
            self.assertEqual(held.take(19), ([12] if near else list(range(13)), []))
            self.assertEqual(held.put(18, "b"), ([], [13] if near else list(range(14))))
            self.assertEqual(held.watch.tree(), chain("a" * 19 + "b"))

    def test_all_letters(self):
        great = ("a", [leaf(letter) for letter in ALPHABET])
        for way in WAYS:
            for letter in ALPHABET:
                held = Held(self, way, ("a", [leaf(letter), leaf(letter)]), great, small=False)
                self.assertEqual(held.put(0, letter), ([], [0]))
                self.assertEqual(held.take(ALPHABET.index(letter) + 1), ([0], []))

    def test_the_many_findings_of_stars(self):
        for way in WAYS:
            watch = Watch(way, star(7), star(39))
            watch.put(0, "a")
            self.assertEqual(watch.count(), count_findings(way, star(7), star(40)))
            watch.take(39)
            self.assertEqual(watch.count(), count_findings(way, star(7), star(39)))

    def test_somewhat_beyond_the_bounds(self):
        for way in WAYS:
            held = Held(self, way, star(8), chain_to("a" * 21, star(18)), small=False)
            self.assertEqual(held.put(0, "b"), ([], []))
            held = Held(self, way, star(3), star(42), small=False)
            self.assertRaises(TooMany, held.watch.put, 0, "a")
            held.take(41)
            held.take(1)
            self.assertRaises(TooMany, held.watch.put, 0, "a")
            held.take(39)
            held.put(0, "a")


class TakenBack(unittest.TestCase):
    """A leaf taken that was put, and last children taken and put again: all is as ahead."""

    def some(self):
        rng = seeded("taken back")
        for turn in range(12):
            letters = rng.choice(("a", "ab"))
            yield random_tree(rng, rng.randint(1, 5), letters), random_tree(rng, rng.choice((3, 9, 30)), letters)

    def test_put_and_taken(self):
        for little, great in self.some():
            for way in WAYS:
                watch = Watch(way, little, great)
                ahead = (watch.tree(), watch.places(), watch.count())
                grove = Grove(great)
                for k in range(size_of(great)):
                    for letter in "abq":
                        gone, come = watch.put(k, letter)
                        fresh = k + len(grove.nodes(grove.nodes()[k]))
                        self.assertEqual(parts(watch.tree())[fresh][0], letter)
                        self.assertEqual(watch.take(fresh), (come, gone))
                        self.assertEqual((watch.tree(), watch.places(), watch.count()), ahead)

    def test_taken_and_put_again(self):
        for little, great in self.some():
            grove = Grove(great)
            nodes = grove.nodes()
            for way in WAYS:
                watch = Watch(way, little, great)
                ahead = (watch.tree(), watch.places(), watch.count())
                for k in grove.leaves():
                    upper = grove.upper(k)
                    if nodes[upper].children[-1] == nodes[k]:
                        gone, come = watch.take(k)
                        self.assertEqual(watch.put(upper, nodes[k].letter), (come, gone))
                        self.assertEqual((watch.tree(), watch.places(), watch.count()), ahead)

    def test_all_children_taken_and_put_again(self):
        for way in WAYS:
            watch = Watch(way, read("a(bc)"), read("a(bca(bc))"))
            ahead = (watch.tree(), watch.places(), watch.count())
            self.assertEqual([watch.take(5), watch.take(4), watch.take(3), watch.take(2), watch.take(1)],
                             [([3], []), ([], []), ([], []), ([0], []), ([], [])])
            self.assertEqual(watch.tree(), leaf("a"))
            told = [watch.put(0, "b"), watch.put(0, "c"), watch.put(0, "a"), watch.put(3, "b"), watch.put(3, "c")]
            self.assertEqual(told, [([], []), ([], [0]), ([], []), ([], []), ([], [3])])
            self.assertEqual((watch.tree(), watch.places(), watch.count()), ahead)


class Refused(unittest.TestCase):
    def refused(self, watch, refusal, deed, *args):
        """Refused with that alone, and nothing is changed by it."""
        ahead = (watch.tree(), watch.places(), watch.count())
        with self.assertRaises(TwigError) as caught:
            getattr(watch, deed)(*args)
        self.assertIs(type(caught.exception), refusal, (deed, args))
        self.assertEqual((watch.tree(), watch.places(), watch.count()), ahead)

    def test_parts_that_are_none(self):
        for way in WAYS:
            for great in (leaf("a"), read("a(b(a)a)"), star(40), chain("a" * 20)):
                watch = Watch(way, read("a(a)"), great)
                size = size_of(great)
                for part in NO_PARTS + (size, size + 1, size + 40):
                    self.refused(watch, NoPart, "put", part, "a")
                    self.refused(watch, NoPart, "take", part)

    def test_letters_that_are_none(self):
        for way in WAYS:
            for great in (leaf("a"), read("a(b(a)a)"), star(39)):
                watch = Watch(way, leaf("a"), great)
                for letter in NO_LETTERS:
                    for part in (0, size_of(great) - 1):
                        self.refused(watch, NoLetter, "put", part, letter)

    def test_every_sign(self):
        for code in [9, 10] + list(range(32, 127)):
            watch = Watch("row", leaf("a"), leaf("b"))
            if chr(code) in ALPHABET:
                watch.put(0, chr(code))
                self.assertEqual(watch.tree(), ("b", [leaf(chr(code))]))
            else:
                self.refused(watch, NoLetter, "put", 0, chr(code))

    def test_forty_parts(self):
        for way in WAYS:
            for great in (star(40), broom(), branched()):
                watch = Watch(way, read("a(a)"), great)
                for part in (0, 20, 39):
                    self.refused(watch, TooMany, "put", part, "a")
                    self.refused(watch, TooMany, "put", part, "z")
                watch.take(39)
                watch.put(0, "b")
                self.refused(watch, TooMany, "put", 0, "b")
                self.assertEqual(size_of(watch.tree()), 40)

    def test_in_this_order(self):
        full, bare = Watch("heap", leaf("a"), star(40)), Watch("heap", leaf("a"), star(3))
        for watch, size in ((full, 40), (bare, 3)):
            for part in (-1, size, True, None, "0", [0], {}):
                for letter in NO_LETTERS + ("a", "z"):
                    self.refused(watch, NoPart, "put", part, letter)
            for letter in NO_LETTERS:
                self.refused(watch, NoLetter, "put", 0, letter)
        self.refused(full, TooMany, "put", 0, "a")

    def test_parts_that_cannot_be_taken(self):
        for way in WAYS:
            watch = Watch(way, leaf("a"), read("a(b(c(d))a)"))
            for part in (0, 1, 2):
                self.refused(watch, NoPart, "take", part)
            watch.take(3)
            self.refused(watch, NoPart, "take", 1)
            watch.take(2)
            watch.take(1)
            watch.take(1)
            self.refused(watch, NoPart, "take", 0)
            self.refused(watch, NoPart, "take", 1)
            self.assertEqual(watch.tree(), leaf("a"))

    def test_truths_are_no_parts(self):
        watch = Watch("row", leaf("a"), read("a(a)"))
        for truth in (False, True):
            self.refused(watch, NoPart, "put", truth, "a")
            self.refused(watch, NoPart, "take", truth)

    def test_deeds_go_on_behind_refusals(self):
        rng = seeded("deeds go on behind refusals")
        for way in WAYS:
            held = Held(self, way, read("a(ab)"), read("a(ba)"), small=False)
            for deed in range(60):
                held.some_deed(rng, "ab")
                self.refused(held.watch, NoPart, "put", held.size(), "a")
                self.refused(held.watch, NoLetter, "put", 0, rng.choice(NO_LETTERS))
                self.refused(held.watch, NoPart, "take", rng.choice(NO_PARTS))
                self.refused(held.watch, NoPart, "take", 0)

    def test_no_watch_of_what_is_no_tree_or_no_way(self):
        good = read("a(b)")
        for bad in ODD_THINGS + (("A", []), ("a", ()), chain_to("a" * 19, ("a", None)), ("a", [good, ("ab", [])])):
            for way in WAYS + ("rows", None, ["row"]):
                for little, great in ((bad, good), (good, bad), (bad, bad)):
                    self.assertRaises(NoTree, Watch, way, little, great)
        for way in ODD_THINGS + ("Row", "row ", "far", ("row",), {"row"}):
            self.assertRaises(NoWay, Watch, way, good, good)


class TheAskersOwn(unittest.TestCase):
    def test_handed_in_stays(self):
        for way in WAYS:
            little, great = read("a(ab)"), read("a(a(ab)b)")
            kept = copy.deepcopy((little, great))
            watch = Watch(way, little, great)
            watch.put(0, "b")
            watch.put(1, "a")
            watch.take(2)
            self.assertEqual((little, great), kept)

    def test_changed_behind_the_making(self):
        for way in WAYS:
            little, great = read("a(ab)"), read("a(a(ab)b)")
            watch, like = Watch(way, little, great), Watch(way, read("a(ab)"), read("a(a(ab)b)"))
            great[1][0][1].clear()
            great[1].append("x")
            little[1].clear()
            self.assertEqual((watch.tree(), watch.places(), watch.count()), (like.tree(), like.places(), like.count()))
            self.assertEqual(watch.put(1, "b"), like.put(1, "b"))
            shatter(little)
            shatter(great)
            self.assertEqual(watch.take(3), like.take(3))
            self.assertEqual((watch.tree(), watch.places(), watch.count()), (like.tree(), like.places(), like.count()))

    def test_told_lists_are_new_and_no_two_are_one(self):
        for way in WAYS:
            little, great = read("a(b)"), read("a(a(b)b)")
            watch = Watch(way, little, great)
            told = [watch.tree(), watch.tree(), watch.places(), watch.places(), watch.put(0, "a"), watch.put(4, "b"),
                    watch.tree(), watch.places(), watch.take(5), watch.take(4), watch.tree(), watch.places()]
            self.assertFalse(share_a_list(*told))
            self.assertFalse(holds_a_list_of(told, [little, great]))
            self.assertEqual(told[0], told[-2])
            self.assertEqual(told[2], told[-1])

    def test_told_changed_by_the_asker(self):
        rng = seeded("told changed by the asker")
        for way in WAYS:
            held = Held(self, way, read("a(ab)"), random_tree(rng, 10, "ab"), small=False)
            for deed in range(20):
                shatter(held.watch.tree())
                shatter(held.watch.places())
                held.check()
                shatter(held.some_deed(rng, "ab"))
                held.check()

    def test_several_of_the_same_trees(self):
        rng = seeded("several of the same trees")
        little, great = read("a(ab)"), random_tree(rng, 12, "ab")
        several = [Held(self, way, little, great, small=False) for way in WAYS for turn in range(3)]
        for deed in range(20):
            rng.choice(several).some_deed(rng, "ab")
            for held in several:
                held.check()
        self.assertGreater(len({str(held.watch.tree()) for held in several}), 6)

    def test_little_and_great_are_one(self):
        for way in WAYS:
            tree = read("a(ab)")
            watch = Watch(way, tree, tree)
            self.assertEqual((watch.places(), watch.put(1, "b"), watch.places()), ([0], ([], []), [0]))
            self.assertEqual(watch.put(1, "z"), ([], []))
            self.assertEqual(watch.put(0, "a"), ([], []))
            self.assertEqual(tree, read("a(ab)"))

    def test_of_a_tree_that_another_told(self):
        for way in WAYS:
            first = Watch(way, read("a(b)"), read("a(a)"))
            told = first.tree()
            second = Watch(way, told, told)
            second.put(0, "b")
            self.assertEqual((first.tree(), told), (read("a(a)"), read("a(a)")))
            first.put(1, "b")
            self.assertEqual((first.tree(), second.tree()), (read("a(a(b))"), read("a(ab)")))
            shatter(told)
            self.assertEqual((first.tree(), second.tree()), (read("a(a(b))"), read("a(ab)")))
            third = Watch(way, read("b"), first.tree())
            self.assertEqual((third.take(2), first.places()), (([2], []), first.places()))
            self.assertEqual((first.tree(), third.tree()), (read("a(a(b))"), read("a(a)")))

    def test_one_tree_at_several_places(self):
        twig = ("a", [leaf("b")])
        kids = [twig, twig]
        great, like = ("a", [twig, ("c", kids), ("a", kids)]), read("a(a(b)c(a(b)a(b))a(a(b)a(b)))")
        little = ("a", [leaf("b")])
        for way in WAYS:
            watch = Watch(way, little, great)
            self.assertEqual(watch.tree(), like)
            self.assertFalse(share_a_list(watch.tree()))
            watch.put(1, "x")
            self.assertEqual(watch.tree(), read("a(a(bx)c(a(b)a(b))a(a(b)a(b)))"))
            watch.take(6)
            self.assertEqual(watch.tree(), read("a(a(bx)c(aa(b))a(a(b)a(b)))"))
            watch.put(4, "y")
            self.assertEqual(watch.tree(), read("a(a(bx)c(aa(b)y)a(a(b)a(b)))"))
            self.assertEqual((great, twig, len(kids)), (like, read("a(b)"), 2))

    def test_one_tree_at_several_places_by_chance(self):
        rng = seeded("one tree at several places")
        for turn in range(10):
            twigs = [leaf("a"), leaf("b")]
            for step in range(6):
                shared = [rng.choice(twigs) for kid in range(rng.randint(1, 3))]
                twigs += [(rng.choice("ab"), shared), (rng.choice("ab"), shared)]
                if size_of(twigs[-1]) > 8:
                    twigs = twigs[:-2]
            great = ("a", [rng.choice(twigs[-4:]) for kid in range(4)])
            kept = copy.deepcopy(great)
            for way in WAYS:
                held = Held(self, way, rng.choice(twigs[:6]), great, small=False)
                for deed in range(8):
                    held.some_deed(rng, "ab")
            self.assertEqual(great, kept)
