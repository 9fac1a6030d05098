"""Papers by pairings, which show that a little tree lies nowhere in a great one by heap."""

from twigfinds.findings import table_of
from twigfinds.trees import is_whole, laid_out


def nowhere_paper(little, great):
    """A paper that little lies nowhere in great, or None where it lies somewhere."""
    table = table_of("heap", little, great)
    if table.how_many() > 0:
        return None
    return [(i, v, crowded(table, i, v))
            for i, row in enumerate(table.rows) for v, many in enumerate(row) if many == 0]


def crowded(table, i, v):
    """Children of i that are more than their spots at v; none where the letters are unlike."""
    if table.little.letters[i] != table.ground.great.letters[v]:
        return []
    # Where i does not lie at v though the letters are alike, some children are
    # always too many together: this is Hall's theorem on pairings.
    found = [some for some in choices(table.little.kids[i])
             if spots_for(table, some, v) < len(some)]
    return found[0]


def choices(kids):
    """All rising lists of some of the kids, that of none first."""
    found = [[]]
    for kid in kids:
        found = found + [some + [kid] for some in found]
    return found


def spots_for(table, some, v):
    """How many children of v there are at which at least one of some lies."""
    spots = table.ground.spots_under(v)
    return len([spot for spot in spots if any(table.rows[kid][spot] > 0 for kid in some)])


def nowhere_shows(little, great, paper):
    """Whether the paper shows that little lies nowhere in great."""
    little_layout = laid_out(little)
    great_layout = laid_out(great)
    if not is_paper(little_layout, great_layout, paper):
        return False
    held = {(i, v): True for i, v, some in paper}
    if not all((0, v) in held for v in range(len(great_layout.letters))):
        return False
    return all(is_good(little_layout, great_layout, held, entry) for entry in paper)


def is_paper(little, great, thing):
    """Whether it is a list of tuples that may stand in a paper, sorted, none of the same two parts."""
    if not isinstance(thing, list) or not all(is_entry(little, great, entry) for entry in thing):
        return False
    return rises([(i, v) for i, v, some in thing])


def is_entry(little, great, thing):
    if not isinstance(thing, tuple) or len(thing) != 3:
        return False
    i, v, some = thing
    return little.has_part(i) and great.has_part(v) and is_list_of_kids(little, i, some)


def is_list_of_kids(little, i, some):
    if not isinstance(some, list) or not all(is_whole(kid) and kid in little.kids[i] for kid in some):
        return False
    return rises(some)


def rises(things):
    return all(things[at] < things[at + 1] for at in range(len(things) - 1))


def is_good(little, great, held, entry):
    i, v, some = entry
    if not some:
        return little.letters[i] != great.letters[v]
    spots = [spot for spot in great.kids[v] if not all((kid, spot) in held for kid in some)]
    return len(spots) < len(some)
