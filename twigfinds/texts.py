"""Trees written as texts, as in a(bc(d)), and read back."""

from twigfinds.errors import NoText
from twigfinds.trees import is_letter, laid_out


def show_tree(tree):
    """The writing of the tree."""
    return writing_of(laid_out(tree), 0)


def writing_of(layout, part):
    kids = layout.kids[part]
    if not kids:
        return layout.letters[part]
    inner = "".join([writing_of(layout, kid) for kid in kids])
    return f"{layout.letters[part]}({inner})"


def read_tree(text):
    """The tree that the text writes."""
    if not isinstance(text, str):
        raise NoText("no text")
    tree, behind = read_from(text, 0)
    if behind < len(text):
        raise NoText("more than one tree's writing")
    return tree


def read_from(text, at):
    """The tree whose writing begins at that sign, and where its writing ends."""
    # A slice tells nothing at the text's end, where a sign alone could not be asked for.
    if not is_letter(text[at:at + 1]):
        raise NoText("no letter where a tree's writing begins")
    if text[at + 1:at + 2] != "(":
        return (text[at], []), at + 1
    children, behind = read_children(text, at + 2)
    return (text[at], children), behind


def read_children(text, at):
    """The trees that are written up to the closing bracket, one at least, and where that ends."""
    child, at = read_from(text, at)
    children = [child]
    while text[at:at + 1] != ")":
        child, at = read_from(text, at)
        children.append(child)
    return children, at + 1
