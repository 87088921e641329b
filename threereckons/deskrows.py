"""The rows of a desk, read to orders: each a word, and all that is handed in with it."""

from threereckons.errors import BadRow, BadText
from threereckons.gramtext import row_in
from threereckons.limits import PLACES
from threereckons.things import is_name, worth_in
from threereckons.treetext import tree_in

# By each order the kinds of the words behind it; behind plant's come pairs of a name and a number.
ORDERS = {
    "lay": ("name",),
    "plant": ("name", "name", "tree"),
    "put": ("name", "path", "tree"),
    "mark": ("name", "path", "number"),
    "give": ("name", "name", "number or none"),
    "uproot": ("name",),
    "undo": (),
    "ask": ("name", "path", "name"),
    "tree": ("name",),
    "road": ("name", "path", "name"),
    "worths": ("name",),
    "rest": ("name",),
    "least": ("name", "name"),
    "ring": ("name",),
    "orders": ("name",),
    "graphs": ("name", "name"),
    "total": (),
    "names": (),
}
GIVEN = ("name", "number")

# Each of these tells what a word tells as a list of one, and an empty one where it isn't so written.


def name_in(word):
    return [word] if is_name(word) else []


def number_in(word):
    number = worth_in(word)
    return [] if number is None else [number]


def number_or_none_in(word):
    return [None] if word == "-" else number_in(word)


def path_in(word):
    if word == ".":
        return [()]
    places = word.split(".")
    if len(places) > PLACES or not all([place in ("1", "2") for place in places]):
        return []
    return [tuple([int(place) for place in places])]


def tree_word_in(word):
    try:
        tree_in(word)
    except BadText:
        return []
    return [word]


READERS = {
    "name": name_in,
    "number": number_in,
    "number or none": number_or_none_in,
    "path": path_in,
    "tree": tree_word_in,
}


def kinds_for(word, many):
    """The kinds of the words behind an order, where there are so many."""
    kinds = ORDERS[word]
    if word == "plant" and many > len(kinds):
        return kinds + GIVEN * ((many - len(kinds)) // len(GIVEN))
    return kinds


def order_in(row):
    """The order that a row tells, and the list of what is handed in; None where it isn't so written."""
    # Where blanks aren't so written, a word is empty, which no word may be.
    word, *words = row.split(" ")
    if word not in ORDERS:
        return None
    kinds = kinds_for(word, len(words))
    if len(words) != len(kinds):
        return None
    handed = []
    for kind, each in zip(kinds, words):
        reader = READERS[kind]
        handed.extend(reader(each))
    return (word, handed) if len(handed) == len(words) else None


def end_of(rows, lay):
    """The number of the row that ends what is laid from a row on."""
    if "end" not in rows[lay + 1:]:
        raise BadRow(lay)
    end = rows.index("end", lay + 1)
    for number in range(lay + 1, end):
        part, read = row_in(rows[number]) if rows[number] != "" else ("", ())
        if read is None:
            raise BadRow(number)
    return end


def orders_in(text):
    """The list of (word, handed) that a text tells."""
    rows = text.split("\n")
    orders = []
    at = 0
    while at < len(rows):
        if rows[at] != "":
            order = order_in(rows[at])
            if order is None:
                raise BadRow(at)
            word, handed = order
            if word == "lay":
                end = end_of(rows, at)
                handed.append("\n".join(rows[at + 1:end]))
                at = end
            orders.append((word, handed))
        at += 1
    return orders
