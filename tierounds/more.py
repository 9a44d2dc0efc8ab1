"""The fewest ties more with which a web has a round, and the first such ties."""

from tierounds.errors import TooMany
from tierounds.webs import check_web
from tierounds.whether import hang_together, surplus

MOST_TIES_OF_ITS_OWN = 10


def check_for_more(web):
    """Refuse what is no web, then one of too many ties."""
    check_web(web)
    if len(web[1]) > MOST_TIES_OF_ITS_OWN:
        raise TooMany("the web has more ties than the fewest more are told of")


def parts_of(ties):
    """The parts into which the ties fall, each a list of places that hang together."""
    parts = []
    for a, b in ties:
        if not any(a in part for part in parts):
            parts.append(hang_together(ties, a))
    return parts


def wanting(ties, part):
    """How many ties more must end among the places of the part, and as many begin, to make all of them even."""
    return sum([max(surplus(ties, place), 0) for place in part])


def least_more(ties):
    """The least number of ties more with which these have a round."""
    parts = parts_of(ties)
    # Several parts must each be left and come to. That is enough: what must begin can lead round from part to part.
    least = 1 if len(parts) > 1 else 0
    return sum([max(wanting(ties, part), least) for part in parts])


def first_helping(n, ties):
    """The first tie, as tuples are in order, with which one fewer is wanted."""
    many = least_more(ties)
    for a in range(n):
        for b in range(n):
            if least_more(ties + [(a, b)]) < many:
                return (a, b)
    return None


def fewest_more(web):
    """The least number of ties more, put behind the web's own, with which there is a round."""
    check_for_more(web)
    return least_more(web[1])


def ties_more(web):
    """The first list of so few ties more, as lists are in order, with which there is a round."""
    check_for_more(web)
    n, ties = web
    more = []
    for step in range(least_more(ties)):
        more.append(first_helping(n, ties + more))
    return more
