"""Trees that lead to a place: whether a thing is one, how many there are, each by its number, and their table."""

from tierounds.errors import NoNumber, NoTree, TooMany
from tierounds.webs import are_rising_below, check_place, check_tie, check_web, is_below, used_places, without

MOST_TREES = 60


def used_but(web, root):
    """The used places but the root, rising."""
    return without(used_places(web), root)


def comes_to(onward, start, root):
    """Whether one comes from start to the root, where onward tells of each other place which one is next."""
    place = start
    for step in range(len(onward)):
        if place != root:
            place = onward[place]
    return place == root


def is_tree(web, place, thing):
    """Whether it is a tree to the place."""
    check_web(web)
    check_place(web, place)
    ties = web[1]
    if not are_rising_below(thing, len(ties)):
        return False
    if sorted([ties[number][0] for number in thing]) != used_but(web, place):
        return False
    onward = {ties[number][0]: ties[number][1] for number in thing}
    return all(comes_to(onward, start, place) for start in onward)


def table_by(ties, places):
    """The table with a row and a column for each of the places, counted by these ties."""
    rows = {place: at for at, place in enumerate(places)}
    table = [[0] * len(places) for place in places]
    for a, b in ties:
        if a in rows and a != b:
            table[rows[a]][rows[a]] += 1
            if b in rows:
                table[rows[a]][rows[b]] -= 1
    return table


def table_of(web, place):
    """The table of the web to the place."""
    check_web(web)
    check_place(web, place)
    return table_by(web[1], used_but(web, place))


def next_table(table, divisor):
    """The table that follows this one, a row and a column fewer: the divisor is the front of the one ahead of it."""
    front = table[0][0]
    behind = list(range(1, len(table)))
    return [[(front * table[i][j] - table[i][0] * table[0][j]) // divisor for j in behind] for i in behind]


def trees_by(table):
    """How many trees the table counts."""
    divisor = 1
    while len(table) > 1:
        front = table[0][0]
        # A front is 0 only where no tie leads out from among some of the places: from there none comes to the root.
        if front == 0:
            return 0
        table = next_table(table, divisor)
        divisor = front
    return table[0][0] if table else 1


def trees_among(web, root, numbers):
    """How many trees to the root there are of these ties alone."""
    return trees_by(table_by([web[1][number] for number in numbers], used_but(web, root)))


def fit_for(web, root):
    """The ties that may stand in a tree to the root, rising: loops lead nowhere, and none leads from the root."""
    return [number for number, (a, b) in enumerate(web[1]) if a != root and a != b]


def taking(web, numbers, tie):
    """These ties, but for the others that lead from where this one begins."""
    start = web[1][tie][0]
    return [number for number in numbers if number == tie or web[1][number][0] != start]


def count_trees(web, place):
    """How many trees there are to the place."""
    return trees_by(table_of(web, place))


def trees_with(web, place, tie):
    """How many trees to the place have the tie."""
    check_web(web)
    check_place(web, place)
    check_tie(web, tie)
    fit = fit_for(web, place)
    return trees_among(web, place, taking(web, fit, tie)) if tie in fit else 0


def tree_at(web, root, number):
    """The tree of a number that there is."""
    left = fit_for(web, root)
    # All trees have as many ties, so those that have the next tie left stand ahead of those that don't.
    for tie in range(len(web[1])):
        if tie in left:
            taken = taking(web, left, tie)
            many = trees_among(web, root, taken)
            if number < many:
                left = taken
            else:
                number -= many
                left = without(left, tie)
    return left


def first_tree(web, place):
    """The first tree to the place, as lists are in order, or None."""
    return tree_at(web, place, 0) if count_trees(web, place) > 0 else None


def all_trees(web, place):
    """All trees to the place, a sorted list."""
    many = count_trees(web, place)
    if many > MOST_TREES:
        raise TooMany("there are more trees than are told at once")
    return [tree_at(web, place, number) for number in range(many)]


def tree_by(web, place, number):
    """The tree to the place with the number."""
    if not is_below(number, count_trees(web, place)):
        raise NoNumber("no tree has this number")
    return tree_at(web, place, number)


def number_of_tree(web, place, tree):
    """The number of the tree to the place."""
    if not is_tree(web, place, tree):
        raise NoTree("this is no tree to the place")
    left = fit_for(web, place)
    number = 0
    for tie in range(len(web[1])):
        if tie in tree:
            left = taking(web, left, tie)
        elif tie in left:
            number += trees_among(web, place, taking(web, left, tie))
            left = without(left, tie)
    return number
