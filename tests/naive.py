"""The words of [4] and [5], followed one by one, for the tests to hold against."""

import itertools


def parts(tree, path=()):
    """(letter, path, tree) of each part, numbered by their places in this list."""
    found = [(tree[0], path, tree)]
    for at, child in enumerate(tree[1]):
        found.extend(parts(child, path + (at,)))
    return found


def paths_of(tree):
    return [path for letter, path, part in parts(tree)]


def above(tree, k):
    paths = paths_of(tree)
    return None if k == 0 else paths.index(paths[k][:-1])


def children(tree, k):
    paths = paths_of(tree)
    return [c for c, path in enumerate(paths) if path != () and path[:-1] == paths[k]]


def is_beneath(path, other):
    return len(path) > len(other) and path[:len(other)] == other


class Pair:
    """A little tree and a great one, taken apart once for many questions."""

    def __init__(self, little, great):
        self.letters = [letter for letter, path, part in parts(little)]
        self.great_letters = [letter for letter, path, part in parts(great)]
        self.paths = paths_of(great)
        self.uppers = [above(little, i) for i in range(len(self.letters))]
        self.kids = [children(little, i) for i in range(len(self.letters))]
        self.great_kids = [children(great, v) for v in range(len(self.paths))]

    def stand_well(self, way, upper, spots):
        """Whether spots, of the children c, d, .. of one part, are as [5] says."""
        if way in ("row", "heap"):
            if not all(w in self.great_kids[upper] for w in spots):
                return False
        elif not all(is_beneath(self.paths[w], self.paths[upper]) for w in spots):
            return False
        for w, x in itertools.combinations(spots, 2):
            if way in ("row", "farrow") and not w < x:
                return False
            if w == x or is_beneath(self.paths[w], self.paths[x]) or is_beneath(self.paths[x], self.paths[w]):
                return False
        return True

    def is_finding(self, way, spots):
        if len(spots) != len(self.letters):
            return False
        if any(self.letters[i] != self.great_letters[w] for i, w in enumerate(spots)):
            return False
        return all(self.stand_well(way, spots[i], [spots[c] for c in kids])
                   for i, kids in enumerate(self.kids))

    def all_lists(self):
        return (list(spots) for spots in itertools.product(range(len(self.paths)), repeat=len(self.letters)))

    def findings(self, way, start=()):
        """All findings in the order of lists that begin with start, by trying on."""
        i = len(start)
        if i == len(self.letters):
            yield list(start)
            return
        for w in range(len(self.paths)):
            tried = start + (w,)
            if self.letters[i] == self.great_letters[w] and self.may_begin(way, tried):
                yield from self.findings(way, tried)

    def may_begin(self, way, tried):
        upper = self.uppers[len(tried) - 1]
        if upper is None:
            return True
        return self.stand_well(way, tried[upper], [tried[c] for c in self.kids[upper] if c < len(tried)])

    def first_at(self, way, v):
        if self.letters[0] != self.great_letters[v]:
            return None
        return next(self.findings(way, (v,)), None)
