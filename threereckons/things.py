"""Things made of numbers, truths, None, texts, lists and tuples."""

from threereckons.limits import BOUND

LETTERS = "abcdefghijklmnopqrstuvwxyz"
FIGURES = "0123456789"
# No NAME has more letters, and no worth more figures.
SIGNS = 6


def own_copy(thing):
    """The same thing, of lists and tuples of its own."""
    if not isinstance(thing, (list, tuple)):
        return thing
    copied = []
    for part in thing:
        copied.append(own_copy(part))
    if isinstance(thing, tuple):
        return tuple(copied)
    return copied


def is_number(thing):
    """Whether a thing is a whole number from 0 up; a truth is none."""
    return isinstance(thing, int) and not isinstance(thing, bool) and thing >= 0


def is_worth(thing):
    """Whether a thing is a number that a spot may be worth."""
    return is_number(thing) and thing < BOUND


def is_name(thing):
    """Whether a thing is a NAME."""
    if not isinstance(thing, str) or thing == "own" or not 1 <= len(thing) <= SIGNS:
        return False
    return all([sign in LETTERS for sign in thing])


def is_tuple_of(thing, many):
    """Whether a thing is a tuple of so many."""
    return isinstance(thing, tuple) and len(thing) == many


def worth_in(word):
    """The worth that a word tells in plain figures; None where it tells none."""
    if not 1 <= len(word) <= SIGNS or not all([sign in FIGURES for sign in word]):
        return None
    if word[0] == "0" and word != "0":
        return None
    return int(word)
