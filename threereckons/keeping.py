"""A tree at one time with all its worths, and the same behind a change, reckoned anew where it must be."""

from threereckons.webs import Web


class Keeping:
    """A tree, what is given, and what its spots are reckoned of and worth; nothing in it changes."""

    def __init__(self, whole, gifts, web, found):
        self.whole = whole
        self.gifts = gifts
        self.web = web
        self.found = found


def keeping_of(grammar, tree, given):
    """The first one, all of it reckoned."""
    web = Web(grammar, tree, given)
    return Keeping(tree, sorted(given), web, web.fill_all())


def is_put(path, top):
    """Whether the node at a path was put, where the path of what was put is told."""
    return top is not None and path[:len(top)] == top


def must_anew(spot, web, found, ahead, top):
    """Whether a spot's rule must be reckoned anew, what it needs being found."""
    path, op, operands = web.recipes[spot]
    if is_put(path, top):
        return True
    # A node that wasn't put has its making still, so what its rules name was there ahead, too.
    if ("own",) in operands and web.owns[path] != ahead.web.owns[path]:
        return True
    return any([found[need] != ahead.found[need] for need in web.needs(spot)])


def keeping_behind(grammar, ahead, tree, given, top):
    """The one behind a change, and how many rules were reckoned anew; top is the path of what was put, or None."""
    web = Web(grammar, tree, given)
    found = {}
    many = 0
    for spot in web.recipes:
        for each in web.way_from(spot, found):
            if web.has_rule(each) and not must_anew(each, web, found, ahead, top):
                found[each] = ahead.found[each]
            else:
                found[each] = web.worth_by(each, found)
                many += 1 if web.has_rule(each) else 0
    return Keeping(tree, sorted(given), web, found), many
