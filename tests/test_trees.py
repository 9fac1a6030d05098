"""Promise [4], and [2] of what trees take and tell."""

import copy
import unittest

from tests import naive
from tests.makers import (ALPHABET, all_trees, chain, chain_to, leaf, random_tree, read, seeded, share_a_list,
                          shatter, star)
from twigfinds.trees import above, children_at, is_tree, letter_at, part_at, size_of


def some_trees():
    """Trees of one part up to forty, up to twenty deep."""
    rng = seeded("some trees")
    trees = [leaf("a"), leaf("z"), star(40), star(27, "q", ALPHABET), chain("a" * 20), chain(ALPHABET[:20]),
             chain(ALPHABET[6:]), chain_to("a" * 19, star(21, "b")), read("a(b(cd)e(f))")]
    for size in range(1, 41):
        for letters in ("a", "ab", ALPHABET):
            trees.append(random_tree(rng, size, letters))
    for size in range(1, 5):
        trees.extend(all_trees(size, "a"))
    return trees


def shared_trees():
    """Trees in which one tree, or one list of children, stands at several places."""
    twig = ("b", [("c", []), ("d", [])])
    kids = [("e", []), ("f", [])]
    empty = []
    one = ("a", empty)
    return [
        ("a", [twig, twig]),
        ("a", [twig, ("x", [twig]), twig]),
        ("a", [("g", kids), ("h", kids), ("i", [("j", kids)])]),
        ("a", [("b", empty), ("c", empty), ("d", [("e", empty)])]),
        ("a", [one, one, one, ("b", [one, one])]),
    ]


class Told(unittest.TestCase):
    def test_example(self):
        tree = read("a(b(cd)e(f))")
        self.assertIs(is_tree(tree), True)
        self.assertEqual(size_of(tree), 6)
        self.assertEqual([letter_at(tree, k) for k in range(6)], list("abcdef"))
        self.assertEqual([above(tree, k) for k in range(6)], [None, 0, 1, 1, 0, 4])
        self.assertEqual([children_at(tree, k) for k in range(6)], [[1, 4], [2, 3], [], [], [5], []])
        self.assertEqual(part_at(tree, 0), ("a", [("b", [("c", []), ("d", [])]), ("e", [("f", [])])]))
        self.assertEqual(part_at(tree, 1), ("b", [("c", []), ("d", [])]))
        self.assertEqual(part_at(tree, 5), ("f", []))

    def test_as_the_words_say(self):
        for tree in some_trees() + shared_trees():
            found = naive.parts(tree)
            self.assertIs(is_tree(tree), True, tree)
            self.assertEqual(size_of(tree), len(found))
            for k, (letter, path, part) in enumerate(found):
                self.assertEqual(letter_at(tree, k), letter)
                self.assertEqual(part_at(tree, k), part)
                self.assertEqual(above(tree, k), naive.above(tree, k))
                self.assertEqual(children_at(tree, k), naive.children(tree, k))

    def test_kinds(self):
        tree = read("a(b(cd)e(f))")
        self.assertIs(type(size_of(tree)), int)
        self.assertIs(type(letter_at(tree, 1)), str)
        self.assertIs(type(part_at(tree, 1)), tuple)
        self.assertIs(type(part_at(tree, 1)[1]), list)
        self.assertIs(type(above(tree, 1)), int)
        self.assertIsNone(above(tree, 0))
        self.assertIs(type(children_at(tree, 0)), list)
        self.assertTrue(all(type(k) is int for k in children_at(tree, 0)))


class TheAskersOwn(unittest.TestCase):
    def test_handed_in_stays(self):
        for tree in some_trees()[:60] + shared_trees():
            kept = copy.deepcopy(tree)
            is_tree(tree)
            size_of(tree)
            for k in range(size_of(tree)):
                letter_at(tree, k)
                above(tree, k)
                shatter(part_at(tree, k))
                shatter(children_at(tree, k))
            self.assertEqual(tree, kept)

    def test_no_two_lists_are_one(self):
        for tree in shared_trees():
            for k in range(size_of(tree)):
                part = part_at(tree, k)
                self.assertFalse(share_a_list(part), part)
                self.assertFalse(share_a_list(part, part_at(tree, k), part_at(tree, 0)))
                self.assertFalse(share_a_list(children_at(tree, k), children_at(tree, k)))
        for tree in some_trees()[:60]:
            self.assertFalse(share_a_list(tree, part_at(tree, 0), part_at(tree, size_of(tree) - 1)))

    def test_changed_by_the_asker_changes_nothing_told_later(self):
        for tree in shared_trees() + some_trees()[:30]:
            for k in range(size_of(tree)):
                kept = part_at(tree, k), children_at(tree, k)
                shatter(part_at(tree, k))
                shatter(children_at(tree, k))
                self.assertEqual((part_at(tree, k), children_at(tree, k)), kept)

    def test_told_by_what_it_is_now(self):
        # Nothing handed in is kept: a tree that its owner has changed is told as it is.
        tree = read("a(bc)")
        self.assertEqual(size_of(tree), 3)
        tree[1].append(leaf("d"))
        self.assertEqual(size_of(tree), 4)
        self.assertEqual(children_at(tree, 0), [1, 2, 3])
