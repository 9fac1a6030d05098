"""The greatest tree that lies at the first part of each of two trees."""

from twigfinds.errors import NoWay
from twigfinds.trees import laid_out


def width_of(worths):
    return len(worths[0]) if worths else 0


def pairs_in_order(worths):
    """The pairs (row, column) of the greatest sum of worths in which both rise; none of them is worth 0."""
    sums = sums_in_order(worths)
    pairs = []
    at = 0
    by = 0
    while sums[at][by] > 0:
        if sums[at][by] == sums[at + 1][by]:
            at += 1
        elif sums[at][by] == sums[at][by + 1]:
            by += 1
        else:
            pairs.append((at, by))
            at += 1
            by += 1
    return pairs


def sums_in_order(worths):
    """sums[at][by] is the greatest sum of worths from the row at and the column by on."""
    width = width_of(worths)
    sums = [[0] * (width + 1) for row in range(len(worths) + 1)]
    for at in reversed(range(len(worths))):
        for by in reversed(range(width)):
            sums[at][by] = max(sums[at + 1][by], sums[at][by + 1], worths[at][by] + sums[at + 1][by + 1])
    return sums


class Pairing:
    """Rows and columns in pairs, with the greatest sum of worths that so many pairs can have.

    It grows by one pair at a time. In a chain of exchanges a row without a
    column takes that of another, this one that of a third, and so on, until
    the last one takes a free column. The chain of the greatest gain keeps the
    sum the greatest for one pair more, and once no chain gains, no sum is
    greater.
    """

    def __init__(self, worths):
        self.worths = worths
        self.columns = [None for row in worths]
        self.holders = [None] * width_of(worths)

    def pairs_told(self):
        # None of them is worth 0: without it the sum would be the same, and a chain that made it gained.
        return [(row, column) for row, column in enumerate(self.columns) if column is not None]

    def grow(self):
        """Make one pair more by the chain of the greatest gain; False where none gains."""
        gains, takers = self.chains()
        ends = [(gains[row] + self.worths[row][column], row, column)
                for row in range(len(self.columns)) if gains[row] is not None
                for column in range(len(self.holders)) if self.holders[column] is None]
        gain, row, column = max(ends, default=(0, None, None))
        if gain <= 0:
            return False
        self.exchange(row, column, takers)
        return True

    def chains(self):
        """Of each row the greatest gain of a chain that leaves it without a column, and who takes its own."""
        gains = [0 if column is None else None for column in self.columns]
        takers = [None for column in self.columns]
        changing = True
        while changing:
            changing = False
            for row in range(len(self.columns)):
                if gains[row] is not None and self.lengthen(row, gains, takers):
                    changing = True
        return gains, takers

    def lengthen(self, row, gains, takers):
        """Let the row take the column of each other one where that gains more; whether it did so."""
        better = False
        for column, holder in enumerate(self.holders):
            if holder is not None:
                gain = gains[row] + self.worths[row][column] - self.worths[holder][column]
                if gains[holder] is None or gain > gains[holder]:
                    gains[holder] = gain
                    takers[holder] = row
                    better = True
        return better

    def exchange(self, row, column, takers):
        while row is not None:
            left = self.columns[row]
            self.columns[row] = column
            self.holders[column] = row
            row = takers[row]
            column = left


def pairs_at_will(worths):
    """The pairs (row, column) of the greatest sum of worths, no row or column twice; none of them is worth 0."""
    pairing = Pairing(worths)
    growing = True
    while growing:
        growing = pairing.grow()
    return pairing.pairs_told()


CHOOSERS = {"row": pairs_in_order, "heap": pairs_at_will}


def greatest_at(chooser, one, u, other, v):
    """The size of the greatest tree that lies at u and at v, and such a tree; 0 and None without one.

    A part has but one part above it, so no u and v come together here twice.
    """
    if one.letters[u] != other.letters[v]:
        return 0, None
    twigs = [[greatest_at(chooser, one, kid, other, spot) for spot in other.kids[v]] for kid in one.kids[u]]
    pairs = chooser([[size for size, twig in row] for row in twigs])
    chosen = [twigs[at][by] for at, by in pairs]
    return 1 + sum(size for size, twig in chosen), (one.letters[u], [twig for size, twig in chosen])


def greatest(way, one, other):
    one_layout = laid_out(one)
    other_layout = laid_out(other)
    # A thing that can't be a key must not be looked up, so its kind is asked first.
    if not isinstance(way, str) or way not in CHOOSERS:
        raise NoWay("no way in which a tree lies in two")
    chooser = CHOOSERS[way]
    return greatest_at(chooser, one_layout, 0, other_layout, 0)


def common_tree(way, one, other):
    """A tree with the most parts that lies at part 0 of each, or None."""
    size, tree = greatest(way, one, other)
    return tree


def common_size(way, one, other):
    """How many parts the greatest tree that lies at part 0 of each has, 0 where there is none."""
    size, tree = greatest(way, one, other)
    return size
