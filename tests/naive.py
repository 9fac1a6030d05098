"""The words of [4] and [5], followed one by one, for the tests to hold against."""

import itertools


def parts(tree, path=()):
    """(letter, path, tree) of each part, numbered by their places in this list."""
    found = [(tree[0], path, tree)]
    for at, child in enumerate(tree[1]):
        found.extend(parts(child, path + (at,)))
    return found


def paths_of(tree):
    return [path for letter, path, part in parts(tree)]


def above(tree, k):
    paths = paths_of(tree)
    return None if k == 0 else paths.index(paths[k][:-1])


def children(tree, k):
    paths = paths_of(tree)
    return [c for c, path in enumerate(paths) if path != () and path[:-1] == paths[k]]


def is_beneath(path, other):
    return len(path) > len(other) and path[:len(other)] == other


class Pair:
    """A little tree and a great one, taken apart once for many questions."""

    def __init__(self, little, great):
        self.letters = [letter for letter, path, part in parts(little)]
        self.great_letters = [letter for letter, path, part in parts(great)]
        self.paths = paths_of(great)
        self.uppers = [above(little, i) for i in range(len(self.letters))]
        self.kids = [children(little, i) for i in range(len(self.letters))]
        self.great_kids = [children(great, v) for v in range(len(self.paths))]

    def stand_well(self, way, upper, spots):
        """Whether spots, of the children c, d, .. of one part, are as [5] says."""
        if way in ("row", "heap"):
            if not all(w in self.great_kids[upper] for w in spots):
                return False
        elif not all(is_beneath(self.paths[w], self.paths[upper]) for w in spots):
            return False
        for w, x in itertools.combinations(spots, 2):
            if way in ("row", "farrow") and not w < x:
                return False
            if w == x or is_beneath(self.paths[w], self.paths[x]) or is_beneath(self.paths[x], self.paths[w]):
                return False
        return True

    def is_finding(self, way, spots):
        if len(spots) != len(self.letters):
            return False
        if any(self.letters[i] != self.great_letters[w] for i, w in enumerate(spots)):
            return False
        return all(self.stand_well(way, spots[i], [spots[c] for c in kids])
                   for i, kids in enumerate(self.kids))

    def all_lists(self):
        return (list(spots) for spots in itertools.product(range(len(self.paths)), repeat=len(self.letters)))

    def findings(self, way, start=()):
        """All findings in the order of lists that begin with start, by trying on."""
        i = len(start)
        if i == len(self.letters):
            yield list(start)
            return
        for w in range(len(self.paths)):
            tried = start + (w,)
            if self.letters[i] == self.great_letters[w] and self.may_begin(way, tried):
                yield from self.findings(way, tried)

    def may_begin(self, way, tried):
        upper = self.uppers[len(tried) - 1]
        if upper is None:
            return True
        return self.stand_well(way, tried[upper], [tried[c] for c in self.kids[upper] if c < len(tried)])

    def first_at(self, way, v):
        if self.letters[0] != self.great_letters[v]:
            return None
        return next(self.findings(way, (v,)), None)


def shows(little, great, paper):
    """The words of [9] of a list of tuples of two whole numbers and a list of whole numbers."""
    letters = [letter for letter, path, part in parts(little)]
    great_letters = [letter for letter, path, part in parts(great)]
    if paper != sorted(paper) or len({(i, v) for i, v, some in paper}) != len(paper):
        return False
    for i, v, some in paper:
        if i not in range(len(letters)) or v not in range(len(great_letters)):
            return False
        if some != sorted(set(some)) or not set(some) <= set(children(little, i)):
            return False
        unlike = letters[i] != great_letters[v]
        if not (unlike and some == [] or some != [] and has_too_few_spots(great, paper, v, some)):
            return False
    return all(any(entry[:2] == (0, v) for entry in paper) for v in range(len(great_letters)))


def has_too_few_spots(great, paper, v, some):
    many = 0
    for w in children(great, v):
        if any(all(entry[:2] != (c, w) for entry in paper) for c in some):
            many += 1
    return many < len(some)


def prunings(tree):
    """Trees that lie at part 0 by row, each child with what is beneath it kept or left out."""
    letter, kids = tree
    choices = [[None] + list(prunings(kid)) for kid in kids]
    for chosen in itertools.product(*choices):
        yield (letter, [kid for kid in chosen if kid is not None])


def most_in_two(way, one, other):
    """The most parts of a tree that lies at part 0 of both, by trying all that do in one of them.

    By heap the order of children is free, so it is enough to try one order.
    """
    sizes = [len(parts(tree)) for tree in prunings(one) if Pair(tree, other).first_at(way, 0) is not None]
    return max(sizes, default=0)


def lies_at_top(way, little, great):
    """Whether it lies at part 0 by row or heap, for little trees too great for trying all."""
    if little[0] != great[0]:
        return False
    fits = [[at for at, spot in enumerate(great[1]) if lies_at_top(way, kid, spot)] for kid in little[1]]
    return in_order(fits) if way == "row" else without_order(fits)


def in_order(fits):
    last = -1
    for spots in fits:
        behind = [at for at in spots if at > last]
        if not behind:
            return False
        last = behind[0]
    return True


def without_order(fits):
    """Whether each kid gets a spot of its own, by one kid after the other making room."""
    taken = {}

    def settle(kid, tried):
        for at in fits[kid]:
            if at not in tried:
                tried.add(at)
                if at not in taken or settle(taken[at], tried):
                    taken[at] = kid
                    return True
        return False

    return all(settle(kid, set()) for kid in range(len(fits)))
