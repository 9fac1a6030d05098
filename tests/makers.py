"""Trees for the tests, and what the tests ask of things that are told."""

import itertools
import random
import sys

from twigfinds.errors import (NoFinding, NoLetter, NoName, NoNumber, NoPart, NoRow, NoText, NoTree,
                              NoWay, TooMany)

WAYS = ("row", "heap", "farrow", "farheap")
ALPHABET = "abcdefghijklmnopqrstuvwxyz"
REFUSALS = (NoTree, NoPart, NoWay, NoNumber, NoFinding, TooMany, NoLetter, NoText, NoName, NoRow)

# Of kinds that are no tree, no number of a part and no way.
ODD_THINGS = (True, False, None, "", "a", "ab", "rows", [], ["a", []], [("a", [])], {}, {"a": []}, (), ("a",),
              b"a", object(), {1}, 10 ** 25, -10 ** 25, [0], "0", "1")


def leaf(letter="a"):
    return (letter, [])


def star(size, letter="a", letters=None):
    letters = letters or letter * (size - 1)
    return (letter, [leaf(one) for one in letters])


def chain(letters):
    return chain_to(letters[:-1], leaf(letters[-1]))


def chain_to(letters, tip):
    for letter in reversed(letters):
        tip = (letter, [tip])
    return tip


def read(text):
    """A tree from a writing such as a(bc(d)), for short tests."""
    tree, rest = read_one(text)
    assert rest == "", rest
    return tree


def read_one(text):
    letter, rest = text[0], text[1:]
    children = []
    if rest.startswith("("):
        rest = rest[1:]
        while not rest.startswith(")"):
            child, rest = read_one(rest)
            children.append(child)
        rest = rest[1:]
    return (letter, children), rest


def random_tree(rng, size, letters, depth=20, bushy=None):
    """A tree of size parts; bushy is how near the root new parts are put."""
    root = (rng.choice(letters), [])
    nodes = [(root, 1)]
    bushy = rng.choice((1, 3, 40)) if bushy is None else bushy
    while len(nodes) < size:
        node, deep = rng.choice(nodes[-bushy:] if bushy < 40 else nodes)
        if deep >= depth:
            node, deep = nodes[0]
        child = (rng.choice(letters), [])
        node[1].insert(rng.randint(0, len(node[1])), child)
        nodes.append((child, deep + 1))
    return root


def shapes(size):
    """All children lists, without letters, of trees with size parts."""
    return list(forests(size - 1))


def forests(size):
    if size == 0:
        yield ()
        return
    for first in range(1, size + 1):
        for inside in forests(first - 1):
            for others in forests(size - first):
                yield (inside,) + others


def lettered(shape, letters):
    return (next(letters), [lettered(inside, letters) for inside in shape])


def all_trees(size, letters):
    """All trees of size parts with these letters."""
    return [lettered(shape, iter(word)) for shape in shapes(size)
            for word in itertools.product(letters, repeat=size)]


def lists_in(thing):
    """Every list within a thing, as often as it stands there."""
    found = [thing] if isinstance(thing, list) else []
    if isinstance(thing, (list, tuple)):
        for inner in thing:
            found.extend(lists_in(inner))
    return found


def share_a_list(*things):
    """Whether two lists in these things, or two within one, are one and the same."""
    marks = [id(one) for thing in things for one in lists_in(thing)]
    return len(marks) != len(set(marks))


def holds_a_list_of(told, handed):
    """Whether a list within what is told is one of those within what was handed in."""
    marks = {id(one) for one in lists_in(handed)}
    return any(id(one) in marks for one in lists_in(told))


def shatter(thing):
    """Change every list within a told thing, as an asker may."""
    for one in lists_in(thing):
        one.append("x")


class TooMuchWork(Exception):
    pass


def with_few_calls(most, function, *args):
    """What the function tells, or TooMuchWork where it makes more calls than most."""
    made = [0]

    def watch(frame, event, arg):
        if event in ("call", "c_call"):
            made[0] += 1
            if made[0] > most:
                raise TooMuchWork(most)

    sys.setprofile(watch)
    try:
        return function(*args)
    finally:
        sys.setprofile(None)


def seeded(name):
    return random.Random(name)
