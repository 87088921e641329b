"""Grammars read from their texts."""

from threereckons.errors import BadGrammar, BadRow
from threereckons.grammar import Grammar
from threereckons.ops import is_op
from threereckons.things import is_name, worth_in

PLACES = ("0", "1", "2")
# The parts of a grammar by the first words of their rows, in order.
PARTS = {"cap": "cap", "sort": "sorts", "make": "makings", "rule": "rules"}


def target_in(word):
    """The target that a word tells; None where it tells none."""
    if is_name(word):
        return ("kept", word)
    place, dot, name = word.partition(".")
    if place not in PLACES or not is_name(name):
        return None
    return ("at", int(place), name)


def operand_in(word):
    """The operand that a word tells; None where it tells none."""
    if word == "own":
        return ("own",)
    number = worth_in(word)
    if number is not None:
        return ("number", number)
    return target_in(word)


def cap_in_words(words):
    number = worth_in(words[0]) if len(words) == 1 else None
    return None if number == 0 else number


def sort_in_words(words):
    if words.count("/") != 1:
        return None
    bar = words.index("/")
    names = words[:bar] + words[bar + 1:]
    if bar == 0 or not all([is_name(name) for name in names]):
        return None
    return (words[0], tuple(words[1:bar]), tuple(words[bar + 1:]))


def making_in_words(words):
    if len(words) < 2 or not all([is_name(word) for word in words]):
        return None
    return (words[0], words[1], tuple(words[2:]))


def rule_in_words(words):
    if len(words) < 3 or not is_name(words[0]) or not is_op(words[2]):
        return None
    target = target_in(words[1])
    operands = tuple([operand_in(word) for word in words[3:]])
    if target is None or None in operands:
        return None
    return (words[0], target, words[2], operands)


READERS = {"cap": cap_in_words, "sort": sort_in_words, "make": making_in_words, "rule": rule_in_words}


def row_in(row):
    """The part a row is of, and what it tells, None where it isn't so written."""
    # Where blanks aren't so written, a word is empty, which no word may be.
    words = row.split(" ")
    if words[0] not in READERS:
        return "", None
    reader = READERS[words[0]]
    return PARTS[words[0]], reader(words[1:])


def stands_late(part, told):
    """Whether a row of a part may not come any more, by those that were told."""
    order = list(told)
    later = order[order.index(part) + 1:]
    if part == "cap":
        later = order
    return any([told[each] != [] for each in later])


def grammar_of(told):
    """The Grammar of the rows told, each with its number."""
    parts = {part: [row for number, row in told[part]] for part in told}
    cap = sum(parts["cap"])
    try:
        return Grammar(parts["sorts"], parts["makings"], parts["rules"], cap=cap)
    except BadGrammar as refused:
        number, row = told[refused.part][refused.row]
        raise BadRow(number) from None


def grammar_in(text):
    """The Grammar whose text it is."""
    told = {PARTS[word]: [] for word in PARTS}
    bad = None
    for number, row in enumerate(text.split("\n")):
        if row == "":
            continue
        part, read = row_in(row)
        if read is None or stands_late(part, told):
            bad = number
            break
        told[part].append((number, read))
    # A row ahead of the bad one that can't stand is the one to tell.
    grammar = grammar_of(told)
    if bad is not None:
        raise BadRow(bad)
    return grammar
