"""How the children of a little tree's part are placed on a great tree's parts.

A spot is a part of the great tree on which a child may be placed.
"""

from twigfinds.errors import NoWay

# Of each way: whether the order of children is kept, and whether a child may
# be placed anywhere beneath instead of on a child only.
WAYS = {
    "row": (True, False),
    "heap": (False, False),
    "farrow": (True, True),
    "farheap": (False, True),
}


def check_way(thing):
    # A thing that can't be a key must not be looked up, so its kind is asked first.
    if not isinstance(thing, str) or thing not in WAYS:
        raise NoWay("no way")


class Ground:
    """A great tree, as one of the ways lets children be placed on it."""

    def __init__(self, way, great):
        self.ordered, self.far = WAYS[way]
        self.great = great

    def all_spots(self):
        return list(range(len(self.great.letters)))

    def spots_under(self, part):
        """The spots for the children of what is placed on part, rising."""
        if self.far:
            return list(range(part + 1, self.great.lasts[part] + 1))
        return list(self.great.kids[part])

    def left_beside(self, spot, spots):
        """Those of the spots that are left for later children once one is on spot."""
        behind = [other for other in spots if other > self.great.lasts[spot]]
        if self.ordered:
            return behind
        return [other for other in spots if self.great.lasts[other] < spot] + behind


class Table:
    """How many findings each part of a little tree has at each part of the great one.

    rows[i][v] is reckoned once, from the rows of the children of i. Spots that
    children share out are never beneath one another, so what goes beneath one
    of them is free of what goes beneath the others, and the numbers multiply.
    known keeps what beside() has reckoned, for the findings told later.
    """

    def __init__(self, little, ground):
        self.little = little
        self.ground = ground
        self.known = {}
        self.rows = [[] for letter in little.letters]
        for i in reversed(range(len(little.letters))):
            self.rows[i] = self.reckoned_row(i)

    def reckoned_row(self, i):
        return [self.reckoned(i, v, letter) for v, letter in enumerate(self.ground.great.letters)]

    def reckoned(self, i, v, letter):
        if letter != self.little.letters[i]:
            return 0
        return self.placements(self.little.kids[i], self.ground.spots_under(v))

    def placements(self, kids, spots):
        """In how many ways all the kids, with what is beneath them, go on the spots.

        steps[at] tells, of each set of kids (as bits), how often just these
        have been placed when the spot number at is the next one to be free.
        """
        if not kids:
            return 1
        steps = [{} for step in range(len(spots) + 1)]
        steps[0][0] = 1
        for at, spot in enumerate(spots):
            add_all(steps[at], steps[at + 1])
            self.place_one(kids, spot, steps[at], steps[self.step_behind(spots, at)])
        return steps[-1].get((1 << len(kids)) - 1, 0)

    def step_behind(self, spots, at):
        """Which spot is the next one that is not beneath the spot number at."""
        last = self.ground.great.lasts[spots[at]]
        step = at + 1
        while step < len(spots) and spots[step] <= last:
            step += 1
        return step

    def place_one(self, kids, spot, before, behind):
        """Add to behind what comes of before by one of the kids on spot."""
        for at, kid in enumerate(kids):
            many = self.rows[kid][spot]
            if many > 0:
                self.place_bit(1 << at, many, before, behind)

    def place_bit(self, bit, many, before, behind):
        for done in before:
            if self.may_follow(done, bit):
                behind[done | bit] = behind.get(done | bit, 0) + before[done] * many

    def may_follow(self, done, bit):
        if self.ground.ordered:
            # Spots are gone through rising, so just the earlier kids must be done.
            return done == bit - 1
        return (done & bit) == 0

    def places(self):
        """The parts at which the little tree lies, rising."""
        return [v for v, many in enumerate(self.rows[0]) if many > 0]

    def how_many(self):
        """How many findings there are."""
        return sum(self.rows[0])

    def finding_by(self, number):
        """The finding of that number, from 0 on, as lists are in order."""
        return self.placed_by([0], self.ground.all_spots(), number)

    def placed_by(self, kids, spots, number):
        """What is placed, as lists are in order, where the kids go on the spots in the way of that number."""
        placed = []
        for at, kid in enumerate(kids):
            spot, number = self.spot_by(kids[at:], spots, number)
            inner, number = divmod(number, self.beside(kids[at:], spot, spots))
            placed.append(spot)
            placed.extend(self.placed_by(self.little.kids[kid], self.ground.spots_under(spot), inner))
            spots = self.ground.left_beside(spot, spots)
        return placed

    def spot_by(self, kids, spots, number):
        """The first kid's spot in the way of that number, and which one of the ways with it there that is."""
        at = 0
        while number >= self.share(kids, spots[at], spots):
            number -= self.share(kids, spots[at], spots)
            at += 1
        return spots[at], number

    def number_of(self, finding):
        """The number of a finding, the way back from finding_by."""
        return self.number_placed([0], self.ground.all_spots(), finding)

    def number_placed(self, kids, spots, finding):
        number = 0
        for at, kid in enumerate(kids):
            spot = finding[kid]
            number += sum(self.share(kids[at:], other, spots) for other in spots if other < spot)
            inner = self.number_placed(self.little.kids[kid], self.ground.spots_under(spot), finding)
            number += inner * self.beside(kids[at:], spot, spots)
            spots = self.ground.left_beside(spot, spots)
        return number

    def share(self, kids, spot, spots):
        """In how many of the ways in which the kids go on the spots the first one is on spot."""
        if self.rows[kids[0]][spot] == 0:
            return 0
        return self.rows[kids[0]][spot] * self.beside(kids, spot, spots)

    def beside(self, kids, spot, spots):
        """In how many ways the other kids go on what the first one on spot leaves; reckoned once."""
        key = (kids[0], spot, tuple(spots))
        if key not in self.known:
            self.known[key] = self.placements(kids[1:], self.ground.left_beside(spot, spots))
        return self.known[key]


def add_all(before, behind):
    for done in before:
        behind[done] = behind.get(done, 0) + before[done]
