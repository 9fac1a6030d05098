"""Promises [13] and [14], and what [2] and [3] say of a desk."""

import itertools
import re
import unittest

from tests.makers import ALPHABET, ODD_THINGS, WAYS, all_trees, random_tree, read, seeded, share_a_list, star
from tests.naive import Pair, most_in_two, parts
from tests.test_texts import SIGNS, writes_a_tree, written
from twigfinds.desk import Desk
from twigfinds.errors import NoLetter, NoName, NoPart, NoRow, NoText, NoWay, TooMany, TwigError

NAME, K, SMALL = "([a-z]{1,8})", "([0-9]|[1-9][0-9])", "([a-z]+)"
PATTERNS = {
    "tree": f"tree {NAME} ([^ ]+)",
    "put": f"put {NAME} {K} {SMALL}",
    "take": f"take {NAME} {K}",
    "drop": f"drop {NAME}",
    "places": f"places {SMALL} {NAME} {NAME}",
    "first": f"first {SMALL} {NAME} {NAME}",
    "count": f"count {SMALL} {NAME} {NAME}",
    "nowhere": f"nowhere {NAME} {NAME}",
    "both": f"both {SMALL} {NAME} {NAME}",
    "show": f"show {NAME}",
}
# A row of each, good at the desk that laid() makes.
GOOD = {
    "tree": "tree new a(b)",
    "put": "put great 1 x",
    "take": "take great 2",
    "drop": "drop great",
    "places": "places row little great",
    "first": "first heap little great",
    "count": "count farrow little great",
    "nowhere": "nowhere little great",
    "both": "both heap little great",
    "show": "show great",
}


def laid():
    desk = Desk()
    desk.say("tree little a(b)")
    desk.say("tree great a(cba(b))")
    return desk


def written_numbers(numbers):
    return " ".join(str(number) for number in numbers) or "none"


class Plain:
    """The words of [13] and [14], one by one: what say tells, or the refusal that is due."""

    def __init__(self):
        self.trees = {}

    def say(self, row):
        found = [(verb, re.fullmatch(pattern, row)) for verb, pattern in PATTERNS.items()]
        fitting = [(verb, shape.groups()) for verb, shape in found if shape]
        if not fitting:
            return NoRow
        (verb, words), = fitting
        if verb == "tree":
            return self.lay(*words)
        names = words[-2:] if verb in ("places", "first", "count", "nowhere", "both") else words[:1]
        if any(name not in self.trees for name in names):
            return NoName
        return getattr(self, verb)(*words)

    def lay(self, name, text):
        if not writes_a_tree(text):
            return NoText
        self.trees[name] = read(text)
        return "ok"

    def path_of(self, name, k):
        paths = [path for letter, path, part in parts(self.trees[name])]
        return paths[int(k)] if int(k) < len(paths) else None

    def at(self, name, path):
        tree = self.trees[name]
        for step in path:
            tree = tree[1][step]
        return tree

    def put(self, name, k, letter):
        path = self.path_of(name, k)
        if path is None:
            return NoPart
        if len(letter) > 1:
            return NoLetter
        if len(parts(self.trees[name])) >= 40:
            return TooMany
        self.at(name, path)[1].append((letter, []))
        return "ok"

    def take(self, name, k):
        path = self.path_of(name, k)
        if not path or self.at(name, path)[1]:
            return NoPart
        del self.at(name, path[:-1])[1][path[-1]]
        return "ok"

    def drop(self, name):
        del self.trees[name]
        return "ok"

    def findings(self, way, little, great):
        return list(Pair(self.trees[little], self.trees[great]).findings(way))

    def places(self, way, little, great):
        if way not in WAYS:
            return NoWay
        return written_numbers(sorted({finding[0] for finding in self.findings(way, little, great)}))

    def first(self, way, little, great):
        if way not in WAYS:
            return NoWay
        return written_numbers((self.findings(way, little, great) + [[]])[0])

    def count(self, way, little, great):
        return NoWay if way not in WAYS else str(len(self.findings(way, little, great)))

    def nowhere(self, little, great):
        return "no" if self.findings("heap", little, great) else "yes"

    def both(self, way, one, other):
        if way not in ("row", "heap"):
            return NoWay
        return str(most_in_two(way, self.trees[one], self.trees[other]))

    def show(self, name):
        return written(self.trees[name])


class Asking(unittest.TestCase):
    def standing(self, desk):
        return [(name, desk.say(f"show {name}")) for name in desk.names()]

    def refused(self, desk, refusal, row):
        """Refused with that alone, and all trees and names are as before."""
        ahead = self.standing(desk)
        with self.assertRaises(TwigError) as caught:
            desk.say(row)
        self.assertIs(type(caught.exception), refusal, row)
        self.assertEqual(self.standing(desk), ahead, row)

    def judged(self, desk, plain, row):
        due = plain.say(row)
        if isinstance(due, str):
            told = desk.say(row)
            self.assertEqual(told, due, (row, plain.trees))
            self.assertIs(type(told), str)
        else:
            self.refused(desk, due, row)
        self.assertEqual(desk.names(), sorted(plain.trees))


class ByHand(Asking):
    def tells(self, desk, *rows):
        for row, due in rows:
            self.assertEqual(desk.say(row), due, row)

    def test_trees(self):
        desk = Desk()
        self.assertEqual(desk.names(), [])
        self.tells(desk, ("tree oak a(bc(d))", "ok"), ("show oak", "a(bc(d))"), ("tree elm z", "ok"), ("show elm", "z"),
                   ("show oak", "a(bc(d))"))
        self.assertEqual(desk.names(), ["elm", "oak"])
        self.tells(desk, ("tree oak b(a)", "ok"), ("show oak", "b(a)"), ("show elm", "z"))
        self.assertEqual(desk.names(), ["elm", "oak"])
        self.tells(desk, ("drop elm", "ok"))
        self.assertEqual(desk.names(), ["oak"])
        self.refused(desk, NoName, "show elm")
        self.refused(desk, NoName, "drop elm")
        self.tells(desk, ("drop oak", "ok"), ("tree elm y", "ok"), ("show elm", "y"))
        self.assertEqual(desk.names(), ["elm"])

    def test_leaves(self):
        desk = Desk()
        self.tells(desk, ("tree oak a(bc(d))", "ok"), ("put oak 1 x", "ok"), ("show oak", "a(b(x)c(d))"),
                   ("put oak 0 y", "ok"), ("show oak", "a(b(x)c(d)y)"), ("put oak 5 z", "ok"),
                   ("show oak", "a(b(x)c(d)y(z))"), ("take oak 2", "ok"), ("show oak", "a(bc(d)y(z))"),
                   ("take oak 1", "ok"), ("show oak", "a(c(d)y(z))"), ("take oak 4", "ok"), ("take oak 3", "ok"),
                   ("show oak", "a(c(d))"))

    def test_where_it_lies(self):
        self.tells(laid(), ("places row little great", "0 3"), ("places heap little great", "0 3"),
                   ("places farrow little great", "0 3"), ("places row great little", "none"),
                   ("places row great great", "0"), ("first row little great", "0 2"),
                   ("first farheap little great", "0 2"), ("first row great great", "0 1 2 3 4"),
                   ("first row great little", "none"), ("count row little great", "2"),
                   ("count farrow little great", "3"), ("count farheap little great", "3"),
                   ("count heap great little", "0"), ("nowhere little great", "no"), ("nowhere great little", "yes"),
                   ("nowhere great great", "no"))

    def test_each_way_by_itself(self):
        desk = Desk()
        desk.say("tree l a(bc)")
        desk.say("tree g a(cbd(bc))")
        told = [[desk.say(f"{verb} {way} l g") for way in WAYS] for verb in ("places", "first", "count")]
        self.assertEqual(told, [["none", "0", "0", "0"], ["none", "0 2 1", "0 2 5", "0 2 1"], ["0", "1", "2", "4"]])
        self.assertEqual(desk.say("nowhere l g"), "no")

    def test_nowhere_is_by_heap(self):
        desk = Desk()
        desk.say("tree l a(b)")
        desk.say("tree g a(c(b))")
        self.assertEqual([desk.say("places farheap l g"), desk.say("nowhere l g")], ["0", "yes"])
        desk.say("tree l a(bc)")
        desk.say("tree g a(cb)")
        self.assertEqual([desk.say("places row l g"), desk.say("nowhere l g")], ["none", "no"])

    def test_in_both(self):
        desk = Desk()
        desk.say("tree one a(b(c)d)")
        desk.say("tree other a(db(c))")
        desk.say("tree third b(a(b))")
        self.tells(desk, ("both row one other", "3"), ("both heap one other", "4"), ("both heap other one", "4"),
                   ("both row one one", "4"), ("both row one third", "0"), ("both heap third other", "0"))

    def test_findings_change_with_the_trees(self):
        desk = laid()
        self.tells(desk, ("put great 1 a", "ok"), ("put great 2 b", "ok"), ("places row little great", "0 2 5"),
                   ("take great 3", "ok"), ("places row little great", "0 4"), ("put little 0 b", "ok"),
                   ("nowhere little great", "yes"), ("put great 0 b", "ok"), ("count row little great", "1"),
                   ("count heap little great", "2"), ("drop little", "ok"), ("tree little b", "ok"),
                   ("count row little great", "3"))

    def test_one_name_twice(self):
        desk = laid()
        self.tells(desk, ("count heap great great", "1"), ("both heap great great", "5"),
                   ("nowhere little little", "no"))

    def test_forty_parts_twenty_deep(self):
        desk = Desk()
        self.tells(desk, ("tree g " + "a(" * 19 + "a" * 21 + ")" * 19, "ok"), ("tree l a(a(a))", "ok"),
                   ("count row l g", str(17 + 21)), ("first row l g", "0 1 2"), ("both row l g", "3"),
                   ("both heap g g", "40"))
        self.refused(desk, TooMany, "put g 39 b")
        self.tells(desk, ("take g 39", "ok"), ("put g 38 b", "ok"), ("tree s " + written(star(7)), "ok"),
                   ("tree t " + written(star(40)), "ok"), ("count heap s t", "2349088560"))
        self.refused(desk, TooMany, "put g 0 b")

    def test_methods_stand_in_the_class_itself(self):
        for name in ("say", "names"):
            self.assertIn(name, vars(Desk))


class NoRows(Asking):
    def test_names(self):
        good = ("a", "z", "ab", "tree", "row", "none", "abcdefgh", "zzzzzzzz")
        bad = ("abcdefghi", "a" * 9, "a" * 40, "A", "aB", "a1", "1", "0", "a-b", "a_b", "a.", "a(b)", "a\n", "\ta", "~",
               "`", "{", "a\tb", "")
        for name in good:
            desk = Desk()
            self.assertEqual(desk.say(f"tree {name} a(b)"), "ok")
            self.assertEqual(desk.names(), [name])
            for row, told in ((f"put {name} 1 c", "ok"), (f"show {name}", "a(b(c))"), (f"take {name} 2", "ok"),
                              (f"places row {name} {name}", "0"), (f"both heap {name} {name}", "2"),
                              (f"nowhere {name} {name}", "no"), (f"drop {name}", "ok")):
                self.assertEqual(desk.say(row), told)
        for name in bad:
            desk = laid()
            for row in (f"tree {name} a(b)", f"put {name} 0 a", f"take {name} 1", f"drop {name}", f"show {name}",
                        f"places row {name} great", f"places row great {name}", f"first row {name} great",
                        f"first row great {name}", f"count row {name} great", f"count row great {name}",
                        f"nowhere {name} great", f"nowhere great {name}", f"both row {name} great",
                        f"both row great {name}"):
                self.refused(desk, NoRow, row)

    def test_numbers(self):
        bad = ("", "00", "01", "09", "000", "100", "010", "999", "-1", "+1", "1.", "1.0", "a", "1a", "a1", "0x1", "1_0",
               "one", "1\n", "\t1", "-", "1-", "''", "1,2", "-0", "/", ":", "1/", "1:")
        for k in bad:
            for row in (f"put great {k} a", f"take great {k}"):
                self.refused(laid(), NoRow, row)
        for k in [str(number) for number in range(100)]:
            plain, desk = Plain(), laid()
            plain.say("tree little a(b)")
            plain.say("tree great a(cba(b))")
            self.judged(desk, plain, f"take great {k}")
            self.judged(desk, plain, f"put great {k} z")

    def test_every_sign_in_each_word(self):
        for verb, row in GOOD.items():
            words = row.split(" ")
            for at in range(len(words)):
                for sign in SIGNS:
                    plain, desk = Plain(), laid()
                    plain.say("tree little a(b)")
                    plain.say("tree great a(cba(b))")
                    for word in (sign, words[at] + sign, sign + words[at]):
                        self.judged(desk, plain, " ".join(words[:at] + [word] + words[at + 1:]))

    def test_blanks(self):
        for row in GOOD.values():
            desk = laid()
            words = row.split(" ")
            for bad in [" " + row, row + " ", row + "  ", "  " + row, row.replace(" ", "  "), row.replace(" ", "\t"),
                        row.replace(" ", "\n"), row.replace(" ", ""), row.replace(" ", ",")]:
                self.refused(desk, NoRow, bad)
            for at in range(1, len(words)):
                self.refused(desk, NoRow, " ".join(words[:at]) + "  " + " ".join(words[at:]))
        self.refused(laid(), NoRow, "tree new a (b)")
        self.refused(laid(), NoRow, "tree new a(b c)")

    def test_words_too_many_or_too_few(self):
        for row in GOOD.values():
            desk = laid()
            words = row.split(" ")
            for at in range(len(words)):
                self.refused(desk, NoRow, " ".join(words[:at]))
                self.refused(desk, NoRow, " ".join(words[:at] + words[at + 1:]))
                self.refused(desk, NoRow, " ".join(words[:at + 1] + words[at:]))
            for more in ("great", "a", "0", "row", "ok", "a(b)"):
                self.refused(desk, NoRow, row + " " + more)

    def test_other_words(self):
        for row in GOOD.values():
            verb, rest = row.split(" ", 1)
            for other in ("Tree", "trees", "tre", "say", "names", "ok", "", "TREE", "find", "all", "a", verb.upper(),
                          verb + "s", verb[:-1], verb.title(), "lies", "number", "watch"):
                if other not in GOOD:
                    self.refused(laid(), NoRow, f"{other} {rest}")
        for verb, other in itertools.permutations(GOOD, 2):
            plain, desk = Plain(), laid()
            plain.say("tree little a(b)")
            plain.say("tree great a(cba(b))")
            self.judged(desk, plain, f"{other} " + GOOD[verb].split(" ", 1)[1])

    def test_no_texts(self):
        for thing in ODD_THINGS + (0, 1, ["tree", "a", "b"], ("show", "great"), b"show great", ["show great"],
                                   {"show great": 1}, {"show"}):
            self.refused(laid(), NoRow, thing)
            self.refused(Desk(), NoRow, thing)
        for text in (" ", "  ", "\n", "\t", "\n\n", "show", "tree", "ok", "none"):
            self.refused(laid(), NoRow, text)

    def test_ways_and_letters_of_small_letters_alone(self):
        for word in ("", "Row", "ROW", "row1", "far-row", "far_row", "1", "(", "row\n", "\trow", "~"):
            for verb in ("places", "first", "count", "both"):
                self.refused(laid(), NoRow, f"{verb} {word} little great")
                self.refused(laid(), NoRow, f"{verb} {word} nobody nobody")
            self.refused(laid(), NoRow, f"put great 0 {word}")
            self.refused(laid(), NoRow, f"put nobody 99 {word}")


class InOrder(Asking):
    """Of two refusals at once, the first one that is due."""

    def full(self):
        desk = laid()
        desk.say("tree full " + written(star(40)))
        return desk

    def test_no_row_ahead_of_all(self):
        for row in ("tree NEW a(", "tree toolonger (", "tree new ", "put NOBODY 99 ab", "put nobody 099 ab",
                    "put nobody 0 A", "take nobody 00", "drop nobody ", "show nobody nobody",
                    "places ROW nobody nobody", "both Farrow great nobody", "count x nobody",
                    "nowhere heap nobody great", "first row nobody g1"):
            self.refused(self.full(), NoRow, row)

    def test_no_name_behind_it(self):
        for row in ("put nobody 99 ab", "put nobody 0 a", "take nobody 99", "take nobody 0", "drop nobody",
                    "show nobody", "nowhere nobody great", "nowhere great nobody", "nowhere nobody nobody"):
            self.refused(self.full(), NoName, row)
        for way in WAYS + ("rows", "a"):
            for verb in ("places", "first", "count", "both"):
                for names in ("nobody great", "great nobody", "nobody nobody"):
                    self.refused(self.full(), NoName, f"{verb} {way} {names}")

    def test_no_text_behind_them(self):
        for text in ("(", ")", "a(", "a()", "ab", "A", "1", "a(b", "a(b))", "()", "a\n", "\t", "~", "a(b)c", "-"):
            self.refused(self.full(), NoText, f"tree new {text}")
            self.refused(self.full(), NoText, f"tree great {text}")

    def test_no_way_of_stages(self):
        for way in ("rows", "far", "a", "heaprow", "farfar", "none", "rowheap"):
            for verb in ("places", "first", "count", "both"):
                self.refused(self.full(), NoWay, f"{verb} {way} little great")
        for way in ("farrow", "farheap"):
            self.refused(self.full(), NoWay, f"both {way} little great")
            self.refused(self.full(), NoWay, f"both {way} great great")
            self.refused(self.full(), NoName, f"both {way} great nobody")

    def test_parts_letters_and_too_many(self):
        desk = self.full()
        for row, refusal in (("put great 5 a", NoPart), ("put great 99 a", NoPart), ("put great 5 ab", NoPart),
                             ("put great 0 ab", NoLetter), ("put great 4 abc", NoLetter),
                             ("put great 0 " + "a" * 40, NoLetter), ("put full 40 a", NoPart),
                             ("put full 40 ab", NoPart), ("put full 39 ab", NoLetter), ("put full 0 ab", NoLetter),
                             ("put full 0 a", TooMany), ("put full 39 a", TooMany), ("take great 0", NoPart),
                             ("take great 3", NoPart), ("take great 5", NoPart), ("take great 99", NoPart),
                             ("take full 0", NoPart), ("take full 40", NoPart)):
            self.refused(desk, refusal, row)
        desk.say("tree bare a")
        self.refused(desk, NoPart, "take bare 0")
        self.refused(desk, NoPart, "put bare 1 a")

    def test_each_answers_as_before_behind_a_refusal(self):
        desk = self.full()
        asked = [row for verb, row in GOOD.items() if verb not in ("tree", "put", "take", "drop")]
        ahead = [desk.say(row) for row in asked]
        for row in ("tree great (", "put great 99 a", "put great 0 ab", "put full 0 a", "take great 0", "drop nobody",
                    "tree Great a", "both far great great", None):
            self.assertRaises(TwigError, desk.say, row)
            self.assertEqual([desk.say(again) for again in asked], ahead)


class Apart(Asking):
    def test_two_desks(self):
        one, other = Desk(), Desk()
        one.say("tree oak a(b)")
        self.assertEqual((one.names(), other.names()), (["oak"], []))
        self.refused(other, NoName, "show oak")
        other.say("tree oak c")
        other.say("put oak 0 d")
        self.assertEqual((one.say("show oak"), other.say("show oak")), ("a(b)", "c(d)"))
        one.say("drop oak")
        self.assertEqual((one.names(), other.say("show oak")), ([], "c(d)"))
        self.assertEqual(Desk().names(), [])

    def test_two_names_of_one_writing(self):
        desk = Desk()
        for name in ("one", "other"):
            desk.say(f"tree {name} a(b(c)b(c))")
        desk.say("put one 1 x")
        desk.say("take other 4")
        self.assertEqual(self.standing(desk), [("one", "a(b(cx)b(c))"), ("other", "a(b(c)b)")])

    def test_names_in_order_and_the_askers_own(self):
        desk = Desk()
        names = ["b", "aa", "z", "a", "ab", "ba", "abcdefgh", "row", "tree", "zz", "abcdefg"]
        for at, name in enumerate(names):
            desk.say(f"tree {name} a")
            self.assertEqual(desk.names(), sorted(names[:at + 1]))
            self.assertIs(type(desk.names()), list)
        told = [desk.names(), desk.names()]
        self.assertFalse(share_a_list(*told))
        told[0].clear()
        told[1].append("x")
        self.assertEqual(desk.names(), sorted(names))
        self.refused(desk, NoName, "show x")
        for name in told[1][:3]:
            desk.say(f"drop {name}")
        self.assertEqual(desk.names(), sorted(names)[3:])
        self.assertEqual(told[1], sorted(names) + ["x"])

    def test_twenty_trees(self):
        desk = Desk()
        for letter in ALPHABET[:20]:
            desk.say(f"tree {letter * 8} {letter}(a)")
        self.assertEqual(desk.names(), [letter * 8 for letter in ALPHABET[:20]])
        self.assertEqual(self.standing(desk), [(letter * 8, f"{letter}(a)") for letter in ALPHABET[:20]])


class ByChance(Asking):
    def some_word(self, rng, form, names):
        words = {"NAME": names * 4 + ["nobody", "toolonger", "X"],
                 "K": ["0", "1", "2", "3", "4", "5", "6"] * 3 + ["39", "40", "99", "00", "100", "x"],
                 "LETTER": ["a", "b"] * 6 + ["z", "ab", "A", "1"],
                 "WAY": list(WAYS) * 4 + ["rows", "Row"]}
        if form == "TREE":
            text = written(random_tree(rng, rng.randint(1, 6), "ab"))
            return text if rng.random() < 0.9 else text.replace(rng.choice("ab()"), rng.choice(["", "(", "A", " "]), 1)
        return rng.choice(words[form])

    def some_row(self, rng, names):
        forms = rng.choice((("tree", "NAME", "TREE"), ("put", "NAME", "K", "LETTER"), ("put", "NAME", "K", "LETTER"),
                            ("take", "NAME", "K"), ("drop", "NAME"), ("show", "NAME"), ("nowhere", "NAME", "NAME"),
                            (rng.choice(("places", "first", "count", "both")), "WAY", "NAME", "NAME")))
        return " ".join([forms[0]] + [self.some_word(rng, form, names) for form in forms[1:]])

    def test_many_rows(self):
        rng = seeded("many rows")
        refusals = set()
        for turn in range(25):
            desk, plain, names = Desk(), Plain(), ["a", "oak", "abcdefgh"][:rng.randint(2, 3)]
            for step in range(80):
                row = self.some_row(rng, names)
                if any(len(parts(tree)) > 8 for tree in plain.trees.values()):
                    row = f"drop {rng.choice(names)}"
                if not isinstance(plain_copy(plain).say(row), str):
                    refusals.add(plain_copy(plain).say(row))
                self.judged(desk, plain, row)
                standing = [(name, written(tree)) for name, tree in plain.trees.items()]
                self.assertEqual(self.standing(desk), sorted(standing))
        self.assertEqual(refusals, {NoRow, NoName, NoText, NoWay, NoPart, NoLetter})

    def test_all_small_trees(self):
        desk, plain = Desk(), Plain()
        trees = [tree for size in (1, 2, 3) for tree in all_trees(size, "ab")]
        rng = seeded("all small trees at a desk")
        for little, great in rng.sample(list(itertools.product(trees, repeat=2)), 150):
            for side in (desk, plain):
                side.say("tree l " + written(little))
                side.say("tree g " + written(great))
            for way in WAYS:
                for verb in ("places", "first", "count"):
                    self.judged(desk, plain, f"{verb} {way} l g")
            for row in ("nowhere l g", "both row l g", "both heap l g"):
                self.judged(desk, plain, row)


def plain_copy(plain):
    like = Plain()
    like.trees = {name: read(written(tree)) for name, tree in plain.trees.items()}
    return like
