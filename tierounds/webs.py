"""Webs of places and one-way ties, and what a round of one is."""

from tierounds.errors import NoPlace, NoRound, NoTie, NoWeb

MOST_PLACES = 7
MOST_TIES = 20


def is_whole(thing):
    """Whether it is a whole number: Python counts truths as ints, the document doesn't."""
    return isinstance(thing, int) and not isinstance(thing, bool)


def is_from_0(thing):
    """Whether it is a whole number from 0 on."""
    return is_whole(thing) and thing >= 0


def is_below(thing, limit):
    """Whether it is a whole number from 0 and below the limit."""
    return is_from_0(thing) and thing < limit


def is_pair_below(thing, limit):
    """Whether it is a tuple of two whole numbers from 0 and below the limit."""
    return isinstance(thing, tuple) and len(thing) == 2 and all(is_below(part, limit) for part in thing)


def is_web(thing):
    """Whether it is a web."""
    if not isinstance(thing, tuple) or len(thing) != 2:
        return False
    n, ties = thing
    if not is_whole(n) or n < 1 or n > MOST_PLACES:
        return False
    if not isinstance(ties, list) or len(ties) > MOST_TIES:
        return False
    return all(is_pair_below(tie, n) for tie in ties)


def check_web(web):
    """Refuse what is no web."""
    if not is_web(web):
        raise NoWeb("this is no web")


def is_place(web, thing):
    """Whether it is a place of the web."""
    return is_below(thing, web[0])


def check_place(web, place):
    """Refuse what is no place of the web."""
    if not is_place(web, place):
        raise NoPlace("this is no place of the web")


def check_tie(web, tie):
    """Refuse what is no number of a tie of the web."""
    if not is_below(tie, len(web[1])):
        raise NoTie("this is no tie of the web")


def leading_from(web, place):
    """What ties_from tells, of what is known to be a web and a place of it."""
    return [number for number, tie in enumerate(web[1]) if tie[0] == place]


def ties_from(web, place):
    """The numbers of the ties that lead from the place, rising."""
    check_web(web)
    check_place(web, place)
    return leading_from(web, place)


def ties_to(web, place):
    """The numbers of the ties that lead to the place, rising."""
    check_web(web)
    check_place(web, place)
    return [number for number, tie in enumerate(web[1]) if tie[1] == place]


def used_places(web):
    """The places where a tie begins or ends, rising."""
    return sorted({end for tie in web[1] for end in tie})


def home_of(web):
    """The place where tie 0 begins; of a web without ties any place will do."""
    return web[1][0][0] if web[1] else 0


def without(numbers, number):
    """The numbers in their order, but for this one."""
    return [other for other in numbers if other != number]


def are_below(thing, limit):
    """Whether it is a list of whole numbers from 0 and below the limit."""
    return isinstance(thing, list) and all(is_below(number, limit) for number in thing)


def are_rising_below(thing, limit):
    """Whether it is a rising list of whole numbers from 0 and below the limit, each once."""
    return are_below(thing, limit) and all(thing[at - 1] < thing[at] for at in range(1, len(thing)))


def are_unlike_below(thing, limit):
    """Whether it is a list of whole numbers from 0 and below the limit, in any order, each once."""
    return are_below(thing, limit) and len(set(thing)) == len(thing)


def goes_on(ties, tour):
    """Whether each tie of the tour begins where the one ahead ends."""
    return all(ties[tour[at - 1]][1] == ties[tour[at]][0] for at in range(1, len(tour)))


def is_beginning(web, thing):
    """Whether it is a list of unlike ties of the web, of none or 0 first, that go on from one another."""
    ties = web[1]
    if not are_unlike_below(thing, len(ties)):
        return False
    return not thing or (thing[0] == 0 and goes_on(ties, thing))


def is_round(web, thing):
    """Whether it is a round of the web."""
    check_web(web)
    ties = web[1]
    if not is_beginning(web, thing) or len(thing) != len(ties):
        return False
    return not ties or ties[thing[-1]][1] == home_of(web)


def check_round(web, tour):
    """Refuse what is no round of the web."""
    if not is_round(web, tour):
        raise NoRound("this is no round of the web")


def places_of(web, tour):
    """The places where the ties of the round begin, in its order."""
    check_round(web, tour)
    return [web[1][number][0] for number in tour]
