"""Whether a web has a round, what shows that it has none, and the first round and the last one."""

from tierounds.errors import NoRound
from tierounds.webs import are_rising_below, check_web, home_of, is_place, without


def surplus(ties, place):
    """How many more of the ties lead from the place than lead to it."""
    begun = [a for a, b in ties if a == place]
    ended = [b for a, b in ties if b == place]
    return len(begun) - len(ended)


def is_uneven(web, place):
    """Whether other than just as many ties lead from the place as lead to it."""
    return surplus(web[1], place) != 0


def least_uneven(web):
    """The least place that is uneven, or None."""
    for place in range(web[0]):
        if is_uneven(web, place):
            return place
    return None


def hang_together(ties, start):
    """The place start and all that hang together with it by the ties, either way round, rising."""
    found = [start]
    at = 0
    while at < len(found):
        for a, b in ties:
            if a == found[at] and b not in found:
                found.append(b)
            if b == found[at] and a not in found:
                found.append(a)
        at += 1
    return sorted(found)


def all_hang_on(ties, start):
    """Whether each of the ties hangs together with the place start."""
    found = hang_together(ties, start)
    return all(a in found for a, b in ties)


def why_none(web):
    """What shows that the web has no round, or None where it has one."""
    check_web(web)
    place = least_uneven(web)
    if place is not None:
        return ("uneven", place)
    ties = web[1]
    if all_hang_on(ties, home_of(web)):
        return None
    return ("apart", hang_together(ties, home_of(web)))


def has_round(web):
    """Whether the web has a round."""
    return why_none(web) is None


def check_round_of_ties(web):
    """Refuse a web that has no round, and one that has no tie."""
    if not has_round(web) or not web[1]:
        raise NoRound("the web has no round of ties")


def part_ties(ties, places):
    """Whether some tie has both its ends among the places, some tie neither, and none just one."""
    within = [(a in places, b in places) for a, b in ties]
    return (True, True) in within and (False, False) in within and all(one == other for one, other in within)


def shows_none(web, thing):
    """Whether it shows that the web has no round."""
    check_web(web)
    if not isinstance(thing, tuple) or len(thing) != 2:
        return False
    word, shown = thing
    if not isinstance(word, str):
        return False
    if word == "uneven":
        return is_place(web, shown) and is_uneven(web, shown)
    if word == "apart":
        return are_rising_below(shown, web[0]) and part_ties(web[1], shown)
    return False


def next_wished(ties, place, left):
    """The first of the ties left that begins at the place and behind which one can go along all others left."""
    for number in left:
        a, b = ties[number]
        rest = [ties[other] for other in without(left, number)]
        # In a web with a round the ties left are even but for here and home, so that they hang on is enough.
        if a == place and all_hang_on(rest, b):
            return number
    return None


def round_wished(web, wish):
    """The round that has at each step the first tie it can have by the wish, an order of all ties but 0; or None."""
    if not has_round(web):
        return None
    ties = web[1]
    if not ties:
        return []
    tour = [0]
    left = wish
    while left:
        number = next_wished(ties, ties[tour[-1]][1], left)
        tour.append(number)
        left = without(left, number)
    return tour


def first_round(web):
    """The first round, as lists are in order, or None."""
    check_web(web)
    return round_wished(web, list(range(1, len(web[1]))))


def last_round(web):
    """The last round, as lists are in order, or None."""
    check_web(web)
    return round_wished(web, list(range(len(web[1]) - 1, 0, -1)))
