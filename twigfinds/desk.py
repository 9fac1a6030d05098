"""A desk with trees by names, to which rows of words are said."""

from twigfinds.common import common_size
from twigfinds.counted import count_findings
from twigfinds.errors import NoName, NoRow
from twigfinds.findings import first_finding, places_of
from twigfinds.texts import read_tree, show_tree
from twigfinds.trees import laid_out
from twigfinds.watch import leaf_put, leaf_taken

LONGEST_NAME = 8

# What each row has behind its first word.
ROWS = {
    "tree": ("NAME", "TREE"),
    "put": ("NAME", "K", "LETTER"),
    "take": ("NAME", "K"),
    "drop": ("NAME",),
    "places": ("WAY", "NAME", "NAME"),
    "first": ("WAY", "NAME", "NAME"),
    "count": ("WAY", "NAME", "NAME"),
    "nowhere": ("NAME", "NAME"),
    "both": ("WAY", "NAME", "NAME"),
    "show": ("NAME",),
}

CHANGES = ("tree", "put", "take", "drop")


def words_of(row):
    """The words of what must be a row."""
    if not isinstance(row, str):
        raise NoRow("no text")
    words = row.split(" ")
    if not is_row(words):
        raise NoRow("no such row")
    return words


def is_row(words):
    if words[0] not in ROWS:
        return False
    forms = ROWS[words[0]]
    return len(words) == 1 + len(forms) and all(has_form(word, form) for word, form in zip(words[1:], forms))


def has_form(word, form):
    if form == "TREE":
        return word != ""
    if form == "K":
        return is_number(word)
    if form == "NAME" and len(word) > LONGEST_NAME:
        return False
    return is_small(word)


def is_number(word):
    """Whether it is one or two figures, no 0 ahead of two."""
    if not all("0" <= sign <= "9" for sign in word):
        return False
    return len(word) == 1 or len(word) == 2 and word[0] != "0"


def is_small(word):
    """Whether it is of small letters alone, one at least."""
    return word != "" and all("a" <= sign <= "z" for sign in word)


def with_blanks(numbers):
    return " ".join([str(number) for number in numbers])


def told_places(way, little, great):
    return with_blanks(places_of(way, little, great)) or "none"


def told_first(way, little, great):
    finding = first_finding(way, little, great)
    return "none" if finding is None else with_blanks(finding)


def told_count(way, little, great):
    return str(count_findings(way, little, great))


def told_both(way, one, other):
    return str(common_size(way, one, other))


TELLERS = {"places": told_places, "first": told_first, "count": told_count, "both": told_both}


class Desk:
    """Trees by names, to which rows are said."""

    def __init__(self):
        self.trees = {}

    def names(self):
        """The names by which trees stand, in order of letters."""
        return sorted(self.trees)

    def say(self, row):
        """Do what the row says, or tell what it asks."""
        words = words_of(row)
        self.check_names(words)
        if words[0] in CHANGES:
            self.change(words)
            return "ok"
        return self.answer(words)

    def check_names(self, words):
        """Refuse where no tree stands by a name of the row; by that of the row tree none must stand."""
        forms = ROWS[words[0]]
        for word, form in zip(words[1:], forms):
            if form == "NAME" and words[0] != "tree" and word not in self.trees:
                raise NoName("no tree stands by that name")

    def change(self, words):
        name = words[1]
        if words[0] == "tree":
            self.trees[name] = read_tree(words[2])
        elif words[0] == "put":
            self.trees[name] = leaf_put(laid_out(self.trees[name]), int(words[2]), words[3])
        elif words[0] == "take":
            self.trees[name] = leaf_taken(laid_out(self.trees[name]), int(words[2]))
        else:
            del self.trees[name]

    def answer(self, words):
        if words[0] == "show":
            return show_tree(self.trees[words[1]])
        little = self.trees[words[-2]]
        great = self.trees[words[-1]]
        if words[0] == "nowhere":
            return "no" if places_of("heap", little, great) else "yes"
        teller = TELLERS[words[0]]
        return teller(words[1], little, great)
