"""How many rounds a web has, and papers that show how many trees lead to a place."""

from tierounds.errors import NoPlace
from tierounds.trees import count_trees, next_table, table_of
from tierounds.webs import home_of, is_place, is_whole, used_places
from tierounds.whether import check_round_of_ties, has_round


def orders_behind(web):
    """The numbers of orders of one tie fewer than lead from each used place, multiplied with one another."""
    many = [0] * web[0]
    for a, b in web[1]:
        many[a] += 1
    product = 1
    for leading in many:
        for factor in range(2, leading):
            product *= factor
    return product


def count_rounds(web):
    """How many rounds the web has."""
    if not has_round(web):
        return 0
    return count_trees(web, home_of(web)) * orders_behind(web)


def check_for_paper(web, place):
    """Refuse a web that has no round or no tie, then what is no used place of it."""
    check_round_of_ties(web)
    if not is_place(web, place) or place not in used_places(web):
        raise NoPlace("this is no used place of the web")


def is_table(thing, many):
    """Whether it is a list of so many rows, each a list of as many whole numbers."""
    if not isinstance(thing, list) or len(thing) != many:
        return False
    for row in thing:
        if not isinstance(row, list) or len(row) != many or not all(is_whole(number) for number in row):
            return False
    return True


def has_tables(thing, many):
    """Whether it is a list of so many tables, the first one of as many rows, each next one of one row fewer."""
    if not isinstance(thing, list) or len(thing) != many:
        return False
    return all(is_table(table, many - at) for at, table in enumerate(thing))


def follows(table, ahead, divisor):
    """Whether each number of the table, times the divisor, is what the table ahead asks for."""
    front = ahead[0][0]
    for i, row in enumerate(table):
        for j, number in enumerate(row):
            if number * divisor != front * ahead[i + 1][j + 1] - ahead[i + 1][0] * ahead[0][j + 1]:
                return False
    return True


def all_follow(paper):
    """Whether each table of the paper but the first follows the one ahead."""
    # No divisor is 0: where there is a round, ties lead out from among any of the places that have rows.
    divisors = [1] + [table[0][0] for table in paper]
    return all(follows(paper[at], paper[at - 1], divisors[at - 1]) for at in range(1, len(paper)))


def paper_says(web, place, thing):
    """How many trees lead to the place by the paper, or None where it is no such paper."""
    check_for_paper(web, place)
    first = table_of(web, place)
    if not has_tables(thing, len(first)):
        return None
    if not thing:
        return 1
    return thing[-1][0][0] if thing[0] == first and all_follow(thing) else None


def paper_of(web, place):
    """The paper of trees to the place."""
    check_for_paper(web, place)
    paper = []
    divisor = 1
    table = table_of(web, place)
    while table:
        paper.append(table)
        front = table[0][0]
        table = next_table(table, divisor)
        divisor = front
    return paper
