"""A desk: a text of orders, answered by a workshop."""

from threereckons.deskrows import orders_in
from threereckons.errors import (
    BadRow, NoCap, NoGiven, NoName, NoNode, NoSpot, NoTree, Ring, Ringed, Taken, TooMuch,
)
from threereckons.graphs import graphs_of
from threereckons.least import least_tree
from threereckons.limits import LIMIT
from threereckons.plans import Plans
from threereckons.rings import ring_ahead
from threereckons.treetext import tree_text
from threereckons.workshop import Workshop


def number_text(number):
    return "-" if number is None else str(number)


def path_text(path):
    return "." if path == () else ".".join([str(place) for place in path])


def parted(words):
    return " ".join(words) if words else "-"


def lay_answer(shop, name, text):
    return str(shop.lay(name, text))


def plant_answer(shop, name, grammar, text, *gifts):
    return str(shop.plant(name, grammar, text, given=list(zip(gifts[::2], gifts[1::2]))))


def put_answer(shop, name, path, text):
    return str(shop.put(name, path, text))


def mark_answer(shop, name, path, own):
    return str(shop.mark(name, path, own))


def give_answer(shop, name, down, number):
    return str(shop.give(name, down, number))


def uproot_answer(shop, name):
    return str(shop.uproot(name))


def undo_answer(shop):
    return "done" if shop.undo() else "nothing"


def ask_answer(shop, name, path, worth):
    return number_text(shop.ask(name, path, worth))


def tree_answer(shop, name):
    return shop.tree(name)


def road_answer(shop, name, path, worth):
    return parted([f"{path_text(at)}:{each}" for at, each in shop.road(name, path, worth)])


def worths_answer(shop, name):
    return parted([f"{path_text(path)}:{each}:{number_text(number)}" for path, each, number in shop.worths(name)])


def rest_answer(shop, name):
    rows = shop.rest(name)
    return parted([f"{path_text(path)}:{each}:{number_text(number)}:{since}" for path, each, number, since in rows])


def least_answer(shop, name, sort):
    tree = least_tree(shop.grammar(name), sort)
    return "-" if tree is None else tree_text(tree)


def ring_answer(shop, name):
    found = ring_ahead(shop.grammar(name))
    return "-" if found is None else tree_text(found[0])


def orders_answer(shop, name):
    return str(len(Plans(shop.grammar(name))))


def graphs_answer(shop, name, sort):
    return str(len(graphs_of(shop.grammar(name), sort)))


def total_answer(shop):
    return str(shop.total())


def names_answer(shop):
    grammars, trees = shop.names()
    return parted(grammars + trees)


ANSWERS = {
    "lay": lay_answer,
    "plant": plant_answer,
    "put": put_answer,
    "mark": mark_answer,
    "give": give_answer,
    "uproot": uproot_answer,
    "undo": undo_answer,
    "ask": ask_answer,
    "tree": tree_answer,
    "road": road_answer,
    "worths": worths_answer,
    "rest": rest_answer,
    "least": least_answer,
    "ring": ring_answer,
    "orders": orders_answer,
    "graphs": graphs_answer,
    "total": total_answer,
    "names": names_answer,
}


def answer_of(shop, word, handed):
    """The answer to one order, also where it is refused."""
    answer = ANSWERS[word]
    try:
        return answer(shop, *handed)
    except BadRow:
        return "refused BadRow"
    except NoCap:
        return "refused NoCap"
    except NoGiven:
        return "refused NoGiven"
    except NoName:
        return "refused NoName"
    except NoNode:
        return "refused NoNode"
    except NoSpot:
        return "refused NoSpot"
    except NoTree:
        return "refused NoTree"
    except Ring:
        return "refused Ring"
    except Ringed:
        return "refused Ringed"
    except Taken:
        return "refused Taken"
    except TooMuch:
        return "refused TooMuch"


def answers(text, *, limit=LIMIT):
    """The list of answers to all orders of a text."""
    orders = orders_in(text)
    shop = Workshop(limit=limit)
    return [answer_of(shop, word, handed) for word, handed in orders]
