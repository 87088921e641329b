"""Least trees of sorts."""


def least_trees(grammar):
    """By each sort that has trees the pair of its fewest nodes and its least tree."""
    least = {}
    while True:
        found = []
        for making, sort, parts in grammar.makings():
            if sort not in least and all([part in least for part in parts]):
                many = 1 + sum([least[part][0] for part in parts])
                found.append((many, (making, 0, tuple([least[part][1] for part in parts])), sort))
        if not found:
            return least
        # No tree that comes later is less: it has more nodes than its parts.
        many, tree, sort = min(found)
        least[sort] = (many, tree)


def least_tree(grammar, sort):
    """The least tree of a sort; None where it has no trees."""
    # This refuses what is no sort.
    grammar.worths_of(sort)
    least = least_trees(grammar)
    return least[sort][1] if sort in least else None
