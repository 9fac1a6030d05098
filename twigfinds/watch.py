"""What a leaf put or taken changes of where a little tree lies."""

from twigfinds.errors import NoLetter, NoPart, TooMany
from twigfinds.findings import table_of
from twigfinds.placing import Ground, Table
from twigfinds.trees import Layout, is_letter

MOST_PARTS = 40


def leaf_put(layout, part, letter):
    """The tree with a leaf put as the last child of part, or the first refusal."""
    layout.check_part(part)
    if not is_letter(letter):
        raise NoLetter("no small letter")
    if len(layout.letters) >= MOST_PARTS:
        raise TooMany("no leaf is put on a tree of so many parts")
    return with_leaf(layout, 0, part, letter)


def with_leaf(layout, at, part, letter):
    children = [with_leaf(layout, kid, part, letter) for kid in layout.kids[at]]
    if at == part:
        children.append((letter, []))
    return (layout.letters[at], children)


def leaf_taken(layout, part):
    """The tree without the leaf that part is, or the refusal."""
    layout.check_part(part)
    if part == 0 or layout.kids[part]:
        raise NoPart("no leaf that can be taken away")
    return without_leaf(layout, 0, part)


def without_leaf(layout, at, part):
    return (layout.letters[at], [without_leaf(layout, kid, part) for kid in layout.kids[at] if kid != part])


class Watch:
    """A little tree and a great one on which leaves are put and from which they are taken, in one of the ways."""

    def __init__(self, way, little, great):
        self.table = table_of(way, little, great)
        self.way = way

    def put(self, part, letter):
        """Put a leaf as the last child of part; told are the parts at which little lies no more, and the new ones."""
        great = self.table.ground.great
        tree = leaf_put(great, part, letter)
        fresh = great.lasts[part] + 1
        return self.change_to(tree, [v if v < fresh else v + 1 for v in range(len(great.letters))])

    def take(self, part):
        """Take the leaf away that part is; told is the same as of put."""
        great = self.table.ground.great
        tree = leaf_taken(great, part)
        numbers = [v if v < part else v - 1 for v in range(len(great.letters))]
        numbers[part] = None
        return self.change_to(tree, numbers)

    def change_to(self, tree, numbers):
        """Have that great tree from now on; numbers has what each part is there, None of one that is no more."""
        before = self.places()
        self.table = Table(self.table.little, Ground(self.way, Layout(tree)))
        behind = self.places()
        kept = [numbers[v] for v in before]
        gone = [v for v in before if numbers[v] not in behind]
        come = [v for v in behind if v not in kept]
        return gone, come

    def tree(self):
        """The great tree as it now is."""
        return self.table.ground.great.tree_of(0)

    def places(self):
        """The parts at which little lies, rising."""
        return self.table.places()

    def count(self):
        """How many findings there are."""
        return self.table.how_many()
