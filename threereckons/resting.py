"""Worths at rest, under a cap, rings or not."""

from threereckons.errors import NoCap, TooMuch
from threereckons.limits import ROUNDS
from threereckons.things import is_number, is_tuple_of
from threereckons.webs import Web


def capped_web(grammar, tree, given):
    if grammar.cap() == 0:
        raise NoCap(grammar.cap())
    return Web(grammar, tree, given)


def lacks_by(web, spot, lacking):
    """Whether a spot lacks, where these do; under a cap no op tells None."""
    if spot in web.handed:
        return False
    return not web.has_rule(spot) or any([need in lacking for need in web.needs(spot)])


def lacking_of(web):
    """By each spot that lacks True, of the fewest that may lack."""
    lacking = {}
    while True:
        fresh = [spot for spot in web.recipes if spot not in lacking and lacks_by(web, spot, lacking)]
        if not fresh:
            return lacking
        for spot in fresh:
            lacking[spot] = True


def first_round(web):
    """By each spot what it's worth in round 0, None where it lacks."""
    found = {spot: web.handed.get(spot, 0) for spot in web.recipes}
    for spot in lacking_of(web):
        found[spot] = None
    return found


def rest_of(grammar, tree, *, given=(), rounds=ROUNDS):
    """The list of (path, name, number, round): what each spot is worth at rest, and since which round."""
    web = capped_web(grammar, tree, given)
    found = first_round(web)
    since = {spot: 0 for spot in found}
    number = 0
    while True:
        number += 1
        # What lacks is told to lack again by each round.
        behind = {spot: web.worth_by(spot, found) for spot in found}
        changed = [spot for spot in found if behind[spot] != found[spot]]
        if not changed:
            return [(path, name, found[(path, name)], since[(path, name)]) for path, name in found]
        if number >= rounds:
            raise TooMuch(rounds)
        for spot in changed:
            since[spot] = number
        found = behind


def is_row_of(spot, thing):
    """Whether a thing is (path, name, number) of a spot, number None or such a one."""
    if not is_tuple_of(thing, 3) or thing[:2] != spot or not all([is_number(place) for place in thing[0]]):
        return False
    return thing[2] is None or is_number(thing[2])


def rests(grammar, tree, thing, *, given=()):
    """Whether a thing is a list of (path, name, number) of all spots, in order, that is at rest."""
    web = capped_web(grammar, tree, given)
    spots = list(web.recipes)
    if not isinstance(thing, list) or len(thing) != len(spots):
        return False
    if not all([is_row_of(spot, row) for spot, row in zip(spots, thing)]):
        return False
    found = {spot: row[2] for spot, row in zip(spots, thing)}
    lacking = lacking_of(web)
    if not all([(found[spot] is None) == (spot in lacking) for spot in spots]):
        return False
    return all([found[spot] == web.worth_by(spot, found) for spot in spots])
