"""Rounds drawn evenly: the rolls wanted, the round that rolls draw, and the rolls that draw a round."""

from tierounds.errors import NoRolls
from tierounds.lastties import gone_by, last_ties, orders_of
from tierounds.trees import count_trees, number_of_tree, tree_at
from tierounds.webs import home_of, is_below, leading_from, used_places
from tierounds.whether import check_round_of_ties


def rolls_wanted(web):
    """The limits of the rolls: of the one for the tree, then of those for each used place."""
    check_round_of_ties(web)
    wanted = [count_trees(web, home_of(web))]
    for place in used_places(web):
        wanted += list(range(len(leading_from(web, place)) - 1, 1, -1))
    return wanted


def are_rolls(thing, wanted):
    """Whether it is a list of as many whole numbers as wanted, each from 0 and below the wanted one."""
    if not isinstance(thing, list) or len(thing) != len(wanted):
        return False
    return all(is_below(roll, limit) for roll, limit in zip(thing, wanted))


def not_fixed(order, tree):
    """The ties whose turn is rolled for, in their order: tie 0 goes ahead of them, the tree's tie behind."""
    return [tie for tie in order if tie != 0 and tie not in tree]


def picked(free, rolls):
    """The ties, which rise, in the order that the rolls tell: each one tells which of those left comes next."""
    left = list(free)
    order = []
    for roll in rolls:
        order.append(left.pop(roll))
    return order + left


def orders_drawn(web, tree, rolls):
    """The orders with the tree's ties at their ends and the others by the rolls for their places."""
    orders = {}
    at = 0
    for place in used_places(web):
        leading = leading_from(web, place)
        free = not_fixed(leading, tree)
        # The one that is left at last has no roll.
        until = at + max(len(free) - 1, 0)
        first = [tie for tie in leading if tie == 0]
        last = [tie for tie in leading if tie in tree]
        orders[place] = first + picked(free, rolls[at:until]) + last
        at = until
    return orders


def drawn(web, rolls):
    """The round that the rolls draw."""
    if not are_rolls(rolls, rolls_wanted(web)):
        raise NoRolls("these are no rolls of the web")
    tree = tree_at(web, home_of(web), rolls[0])
    return gone_by(web, orders_drawn(web, tree, rolls[1:]))


def rolls_picking(order):
    """The rolls that tell the ties in this order."""
    rolls = []
    for at in range(len(order) - 1):
        rolls.append(len([tie for tie in order[at:] if tie < order[at]]))
    return rolls


def rolls_of(web, tour):
    """The rolls that draw the round."""
    check_round_of_ties(web)
    orders = orders_of(web, tour)
    tree = last_ties(web, tour)
    rolls = [number_of_tree(web, home_of(web), tree)]
    for place in used_places(web):
        rolls += rolls_picking(not_fixed(orders[place], tree))
    return rolls
