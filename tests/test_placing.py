"""The table that findings are told from: its numbers, held against findings tried one by one."""

import unittest

from tests.makers import WAYS, random_tree, read, seeded, star
from tests.naive import Pair
from twigfinds.findings import table_of


class Numbers(unittest.TestCase):
    def test_by_hand(self):
        self.assertEqual([table_of(way, star(3), star(5)).rows[0][0] for way in WAYS], [6, 12, 6, 12])
        little, great = read("a(a)"), read("a(a(a)a)")
        self.assertEqual([table_of(way, little, great).rows for way in WAYS],
                         [[[2, 1, 0, 0], [1, 1, 1, 1]]] * 2 + [[[3, 1, 0, 0], [1, 1, 1, 1]]] * 2)

    def test_as_many_as_there_are(self):
        rng = seeded("as many as there are")
        for turn in range(150):
            letters = rng.choice(("a", "ab", "abc"))
            little, great = random_tree(rng, rng.choice((2, 3, 4, 5)), letters), random_tree(rng, 8, letters)
            pair = Pair(little, great)
            for way in WAYS:
                heads = [finding[0] for finding in pair.findings(way)]
                many = [heads.count(v) for v in range(8)]
                self.assertEqual(table_of(way, little, great).rows[0], many, (way, little, great))
