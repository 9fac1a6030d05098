"""Where a little tree lies in a great one, and its findings, in four ways."""

from twigfinds.placing import Ground, Table, check_way
from twigfinds.trees import laid_out


def laid_on_ground(way, little, great):
    """The little tree's layout and the great one's ground, or the first refusal."""
    little_layout = laid_out(little)
    great_layout = laid_out(great)
    check_way(way)
    return little_layout, Ground(way, great_layout)


def table_of(way, little, great):
    layout, ground = laid_on_ground(way, little, great)
    return Table(layout, ground)


def many_at(way, little, great, part):
    """How many findings of little have it at that part of great."""
    layout, ground = laid_on_ground(way, little, great)
    ground.great.check_part(part)
    return Table(layout, ground).rows[0][part]


def is_finding(way, little, great, thing):
    """Whether anything at all is a finding of little in great."""
    layout, ground = laid_on_ground(way, little, great)
    return is_found(layout, ground, thing)


def is_found(layout, ground, thing):
    if not is_list_of_parts(layout, ground.great, thing):
        return False
    return all(stands_well(layout, ground, thing, i) for i in range(len(thing)))


def is_list_of_parts(layout, great, thing):
    """Whether it is a list with a part of the great tree for each of the little one's."""
    if not isinstance(thing, list) or len(thing) != len(layout.letters):
        return False
    return all(great.has_part(spot) for spot in thing)


def stands_well(layout, ground, spots, i):
    """Whether part i and its children are on spots as the way asks."""
    if layout.letters[i] != ground.great.letters[spots[i]]:
        return False
    left = ground.spots_under(spots[i])
    for kid in layout.kids[i]:
        if spots[kid] not in left:
            return False
        left = ground.left_beside(spots[kid], left)
    return True


def places_of(way, little, great):
    """The parts of great at which little lies, rising."""
    return table_of(way, little, great).places()


def lies_at(way, little, great, part):
    """Whether little lies at that part of great."""
    return many_at(way, little, great, part) > 0


def first_finding(way, little, great):
    """The first finding, as lists are in order, or None."""
    table = table_of(way, little, great)
    if table.how_many() == 0:
        return None
    return table.finding_by(0)
