"""The orders in which rounds leave their places, and the ties with which they leave them for the last time."""

from tierounds.counted import orders_behind
from tierounds.errors import NoOrders, NoTree
from tierounds.trees import is_tree
from tierounds.webs import are_below, check_round, check_web, home_of, is_round, leading_from, used_places
from tierounds.whether import has_round


def orders_of(web, tour):
    """For each used place the ties that lead from there, in the order of the round."""
    check_round(web, tour)
    orders = {place: [] for place in used_places(web)}
    for tie in tour:
        orders[web[1][tie][0]].append(tie)
    return orders


def last_ties(web, tour):
    """The ties with which the round leaves each used place but its home for the last time, rising."""
    orders = orders_of(web, tour)
    home = home_of(web)
    return sorted([orders[place][-1] for place in orders if place != home])


def is_order(web, place, thing):
    """Whether it is a list of all ties that lead from the place, each once, 0 nowhere but at its front."""
    if not are_below(thing, len(web[1])) or sorted(thing) != leading_from(web, place):
        return False
    return 0 not in thing or thing[0] == 0


def is_orders(web, thing):
    """Whether it is orders of the web."""
    places = used_places(web)
    if not isinstance(thing, dict) or len(thing) != len(places):
        return False
    # Asked for by the places: so a key that is equal to one stands for it.
    return all(place in thing and is_order(web, place, thing[place]) for place in places)


def check_orders(web, orders):
    """Refuse what is no web, then what is no orders of it."""
    check_web(web)
    if not is_orders(web, orders):
        raise NoOrders("this is no orders of the web")


def gone_by(web, orders):
    """The ties along which one goes by the orders."""
    gone = []
    place = home_of(web)
    left = {start: list(orders[start]) for start in used_places(web)}
    # Tie 0 is at the front of its list: so the first step is like all others.
    while left.get(place):
        tie = left[place].pop(0)
        gone.append(tie)
        place = web[1][tie][1]
    return gone


def how_far_by(web, orders):
    """How many ties one goes along by the orders."""
    check_orders(web, orders)
    return len(gone_by(web, orders))


def round_by_orders(web, orders):
    """The round along which one goes by the orders, or None where it is none."""
    check_orders(web, orders)
    gone = gone_by(web, orders)
    return gone if is_round(web, gone) else None


def check_home_tree(web, tree):
    """Refuse what is no tree to the place where tie 0 begins."""
    check_web(web)
    if not is_tree(web, home_of(web), tree):
        raise NoTree("this is no tree to the place where tie 0 begins")


def rounds_of_tree(web, tree):
    """How many rounds have the tree as their last ties."""
    check_home_tree(web, tree)
    # All orders with the tree's ties at their ends, and 0 at its front, lead to a round where the web has one.
    return orders_behind(web) if has_round(web) else 0


def rising_orders(web, tree):
    """The orders that rise, but for the tree's ties, which stand at the ends."""
    orders = {}
    for place in used_places(web):
        leading = leading_from(web, place)
        orders[place] = [tie for tie in leading if tie not in tree] + [tie for tie in leading if tie in tree]
    return orders


def first_of_tree(web, tree):
    """The first round that has the tree as its last ties, as lists are in order, or None."""
    check_home_tree(web, tree)
    return gone_by(web, rising_orders(web, tree)) if has_round(web) else None
