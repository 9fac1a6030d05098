"""Trees, tuples (letter, children), and their parts, numbered from 0 on."""

from twigfinds.errors import NoPart, NoTree


def is_whole(thing):
    """Whether it is a whole number; a truth is none."""
    return isinstance(thing, int) and not isinstance(thing, bool)


def is_letter(thing):
    return isinstance(thing, str) and len(thing) == 1 and "a" <= thing <= "z"


def is_tree(thing):
    """Whether anything at all is a tree."""
    if not isinstance(thing, tuple) or len(thing) != 2:
        return False
    letter, children = thing
    if not is_letter(letter) or not isinstance(children, list):
        return False
    return all(is_tree(child) for child in children)


class Layout:
    """What is known of a tree's parts, each list by the number of the part.

    It keeps nothing of the tree itself, so it shares no list with the asker.
    """

    def __init__(self, tree):
        self.letters = []
        self.uppers = []
        self.kids = []
        self.lasts = []
        self.lay(tree, None)

    def lay(self, tree, upper):
        letter, children = tree
        part = len(self.letters)
        self.letters.append(letter)
        self.uppers.append(upper)
        self.kids.append([])
        self.lasts.append(part)
        for child in children:
            self.kids[part].append(len(self.letters))
            self.lay(child, part)
        # The parts beneath a part are just those behind it up to its last one.
        self.lasts[part] = len(self.letters) - 1

    def has_part(self, thing):
        return is_whole(thing) and 0 <= thing < len(self.letters)

    def check_part(self, thing):
        if not self.has_part(thing):
            raise NoPart("no number of a part")

    def tree_of(self, part):
        # Built anew at each place, so that no two lists within it are one.
        return (self.letters[part], [self.tree_of(kid) for kid in self.kids[part]])


def laid_out(thing):
    """The layout of what must be a tree."""
    if not is_tree(thing):
        raise NoTree("no tree")
    return Layout(thing)


def laid_out_at(thing, k):
    """The layout of what must be a tree that has a part k."""
    layout = laid_out(thing)
    layout.check_part(k)
    return layout


def size_of(tree):
    """How many parts the tree has."""
    return len(laid_out(tree).letters)


def letter_at(tree, k):
    """The letter of part k."""
    return laid_out_at(tree, k).letters[k]


def part_at(tree, k):
    """The tree that part k is."""
    return laid_out_at(tree, k).tree_of(k)


def above(tree, k):
    """The number of the part above part k, None of 0."""
    return laid_out_at(tree, k).uppers[k]


def children_at(tree, k):
    """The numbers of the children of part k, rising."""
    return list(laid_out_at(tree, k).kids[k])
