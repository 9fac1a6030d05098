"""How many findings there are, and findings by their numbers, in the order of lists."""

from twigfinds.errors import NoFinding, NoNumber, TooMany
from twigfinds.findings import is_found, laid_on_ground, many_at, table_of
from twigfinds.placing import Table
from twigfinds.trees import is_whole

MOST_TOLD = 300


def count_findings(way, little, great):
    """How many findings of little in great there are."""
    return table_of(way, little, great).how_many()


def count_at(way, little, great, part):
    """How many findings have little at that part of great."""
    return many_at(way, little, great, part)


def finding_by(way, little, great, number):
    """The finding of that number."""
    table = table_of(way, little, great)
    if not is_whole(number) or not 0 <= number < table.how_many():
        raise NoNumber("no number of a finding")
    return table.finding_by(number)


def number_of(way, little, great, thing):
    """The number of a finding."""
    layout, ground = laid_on_ground(way, little, great)
    if not is_found(layout, ground, thing):
        raise NoFinding("no finding")
    return Table(layout, ground).number_of(thing)


def all_findings(way, little, great):
    """All findings, in order."""
    table = table_of(way, little, great)
    many = table.how_many()
    if many > MOST_TOLD:
        raise TooMany("more findings than are told")
    return [table.finding_by(number) for number in range(many)]
