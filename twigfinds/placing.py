"""How the children of a little tree's part are placed on a great tree's parts.

A spot is a part of the great tree on which a child may be placed.
"""

from twigfinds.errors import NoWay

# Of each way: whether the order of children is kept, and whether a child may
# be placed anywhere beneath instead of on a child only.
WAYS = {
    "row": (True, False),
    "heap": (False, False),
    "farrow": (True, True),
    "farheap": (False, True),
}


def check_way(thing):
    # A thing that can't be a key must not be looked up, so its kind is asked first.
    if not isinstance(thing, str) or thing not in WAYS:
        raise NoWay("no way")


class Ground:
    """A great tree, as one of the ways lets children be placed on it."""

    def __init__(self, way, great):
        self.ordered, self.far = WAYS[way]
        self.great = great

    def spots_under(self, part):
        """The spots for the children of what is placed on part, rising."""
        if self.far:
            return list(range(part + 1, self.great.lasts[part] + 1))
        return list(self.great.kids[part])

    def left_beside(self, spot, spots):
        """Those of the spots that are left for later children once one is on spot."""
        behind = [other for other in spots if other > self.great.lasts[spot]]
        if self.ordered:
            return behind
        return [other for other in spots if self.great.lasts[other] < spot] + behind


class Table:
    """How many findings each part of a little tree has at each part of the great one.

    rows[i][v] is reckoned once, from the rows of the children of i. Spots that
    children share out are never beneath one another, so what goes beneath one
    of them is free of what goes beneath the others, and the numbers multiply.
    """

    def __init__(self, little, ground):
        self.little = little
        self.ground = ground
        self.rows = [[] for letter in little.letters]
        for i in reversed(range(len(little.letters))):
            self.rows[i] = self.reckoned_row(i)

    def reckoned_row(self, i):
        return [self.reckoned(i, v, letter) for v, letter in enumerate(self.ground.great.letters)]

    def reckoned(self, i, v, letter):
        if letter != self.little.letters[i]:
            return 0
        return self.placements(self.little.kids[i], self.ground.spots_under(v))

    def placements(self, kids, spots):
        """In how many ways all the kids, with what is beneath them, go on the spots.

        steps[at] tells, of each set of kids (as bits), how often just these
        have been placed when the spot number at is the next one to be free.
        """
        steps = [{} for step in range(len(spots) + 1)]
        steps[0][0] = 1
        for at, spot in enumerate(spots):
            add_all(steps[at], steps[at + 1])
            self.place_one(kids, spot, steps[at], steps[self.step_behind(spots, at)])
        return steps[-1].get((1 << len(kids)) - 1, 0)

    def step_behind(self, spots, at):
        """Which spot is the next one that is not beneath the spot number at."""
        last = self.ground.great.lasts[spots[at]]
        step = at + 1
        while step < len(spots) and spots[step] <= last:
            step += 1
        return step

    def place_one(self, kids, spot, before, behind):
        """Add to behind what comes of before by one of the kids on spot."""
        for at, kid in enumerate(kids):
            many = self.rows[kid][spot]
            if many > 0:
                self.place_bit(1 << at, many, before, behind)

    def place_bit(self, bit, many, before, behind):
        for done in before:
            if self.may_follow(done, bit):
                behind[done | bit] = behind.get(done | bit, 0) + before[done] * many

    def may_follow(self, done, bit):
        if self.ground.ordered:
            # Spots are gone through rising, so just the earlier kids must be done.
            return done == bit - 1
        return (done & bit) == 0

    def places(self):
        """The parts at which the little tree lies, rising."""
        return [v for v, many in enumerate(self.rows[0]) if many > 0]

    def first_at(self, i, v):
        """The first finding, as lists are in order, of part i at v, where it lies."""
        finding = [v]
        kids = self.little.kids[i]
        spots = self.ground.spots_under(v)
        for at, kid in enumerate(kids):
            spot = self.first_spot(kids[at:], spots)
            finding.extend(self.first_at(kid, spot))
            spots = self.ground.left_beside(spot, spots)
        return finding

    def first_spot(self, kids, spots):
        """The first spot for the first kid that leaves room for the other kids."""
        first, *others = kids
        for spot in spots:
            left = self.ground.left_beside(spot, spots)
            if self.rows[first][spot] > 0 and self.placements(others, left) > 0:
                return spot
        return None


def add_all(before, behind):
    for done in before:
        behind[done] = behind.get(done, 0) + before[done]
