"""Trees as texts: add:3(leaf:4,leaf)."""

from threereckons.errors import BadText, NoTree
from threereckons.limits import PLACES
from threereckons.things import FIGURES, LETTERS, SIGNS, is_name
from threereckons.trees import is_tree

MOST_PARTS = 2


def tree_text(tree):
    """The text of a tree."""
    making, own, parts = tree
    head = f"{making}:{own}" if own > 0 else making
    if parts == ():
        return head
    inner = ",".join([tree_text(part) for part in parts])
    return f"{head}({inner})"


def behind_signs(text, at, signs):
    """The place behind the signs of a kind that stand there, as many as a word may have."""
    behind = at
    while behind < len(text) and behind < at + SIGNS and text[behind] in signs:
        behind += 1
    return behind


def name_from(text, at):
    """The NAME that stands there, and the place behind it."""
    behind = behind_signs(text, at, LETTERS)
    name = text[at:behind]
    if not is_name(name):
        raise BadText(behind)
    return name, behind


def own_from(text, at):
    """The number that a node bears, told there or 0, and the place behind it."""
    if text[at:at + 1] != ":":
        return 0, at
    first = at + 1
    behind = behind_signs(text, first, FIGURES)
    # 0 is told by no figure at all.
    if behind == first or text[first] == "0":
        raise BadText(first)
    return int(text[first:behind]), behind


def parts_from(text, at, deep):
    """The parts that stand there, behind a bracket, and the place behind the one that ends them."""
    parts = []
    while True:
        part, at = node_from(text, at, deep)
        parts.append(part)
        sign = text[at:at + 1]
        if sign == ")":
            return tuple(parts), at + 1
        if sign != "," or len(parts) == MOST_PARTS:
            raise BadText(at)
        at += 1


def node_from(text, at, deep):
    """The node that stands there, so many places deep, and the place behind it."""
    making, at = name_from(text, at)
    own, at = own_from(text, at)
    parts = ()
    if text[at:at + 1] == "(" and deep < PLACES:
        parts, at = parts_from(text, at + 1, deep + 1)
    return (making, own, parts), at


def tree_in(text):
    """The tree, of whatever grammar, whose text it is."""
    tree, behind = node_from(text, 0, 0)
    if behind < len(text):
        raise BadText(behind)
    return tree


def tree_of(grammar, text, *, sort=None):
    """The tree of the grammar, of a sort where one is told, whose text it is."""
    tree = tree_in(text)
    if not is_tree(grammar, tree, sort=sort):
        raise NoTree(text)
    return tree
