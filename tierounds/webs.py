"""Webs of places and one-way ties, and what a round of one is."""

from tierounds.errors import NoPlace, NoRound, NoWeb

MOST_PLACES = 7
MOST_TIES = 20


def is_whole(thing):
    """Whether it is a whole number: Python counts truths as ints, the document doesn't."""
    return isinstance(thing, int) and not isinstance(thing, bool)


def is_below(thing, limit):
    """Whether it is a whole number from 0 and below the limit."""
    return is_whole(thing) and 0 <= thing < limit


def is_pair_below(thing, limit):
    """Whether it is a tuple of two whole numbers from 0 and below the limit."""
    return isinstance(thing, tuple) and len(thing) == 2 and all(is_below(part, limit) for part in thing)


def is_web(thing):
    """Whether it is a web."""
    if not isinstance(thing, tuple) or len(thing) != 2:
        return False
    n, ties = thing
    if not is_whole(n) or n < 1 or n > MOST_PLACES:
        return False
    if not isinstance(ties, list) or len(ties) > MOST_TIES:
        return False
    return all(is_pair_below(tie, n) for tie in ties)


def check_web(web):
    """Refuse what is no web."""
    if not is_web(web):
        raise NoWeb("this is no web")


def is_place(web, thing):
    """Whether it is a place of the web."""
    return is_below(thing, web[0])


def check_place(web, place):
    """Refuse what is no place of the web."""
    if not is_place(web, place):
        raise NoPlace("this is no place of the web")


def ties_from(web, place):
    """The numbers of the ties that lead from the place, rising."""
    check_web(web)
    check_place(web, place)
    return [number for number, tie in enumerate(web[1]) if tie[0] == place]


def ties_to(web, place):
    """The numbers of the ties that lead to the place, rising."""
    check_web(web)
    check_place(web, place)
    return [number for number, tie in enumerate(web[1]) if tie[1] == place]


def has_each_once(thing, many):
    """Whether it is a list of all whole numbers from 0 and below many, each once."""
    if not isinstance(thing, list) or len(thing) != many:
        return False
    return all(is_below(number, many) for number in thing) and len(set(thing)) == many


def comes_home(ties, tour):
    """Whether each tie of the tour begins where the one ahead ends, and the first where the last ends."""
    # Ahead of the tie at 0 stands the one at -1, which is the last: so coming home needs no test of its own.
    return all(ties[tour[at - 1]][1] == ties[tour[at]][0] for at in range(len(tour)))


def is_round(web, thing):
    """Whether it is a round of the web."""
    check_web(web)
    ties = web[1]
    if not has_each_once(thing, len(ties)):
        return False
    return not ties or (thing[0] == 0 and comes_home(ties, thing))


def check_round(web, tour):
    """Refuse what is no round of the web."""
    if not is_round(web, tour):
        raise NoRound("this is no round of the web")


def places_of(web, tour):
    """The places where the ties of the round begin, in its order."""
    check_round(web, tour)
    return [web[1][number][0] for number in tour]
