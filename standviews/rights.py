"""Rights of tables, and what is seen of a store under them."""

from standviews.checks import holds, is_check
from standviews.plans import place_of, places_of
from standviews.worths import bag_of


def is_right(plan, table, thing):
    """Whether this is a right of the plan's table of this name."""
    place = place_of(plan, table)
    if place is None:
        return False
    if thing is None:
        return True
    if type(thing) is not tuple or len(thing) != 2:
        return False
    check, names = thing
    columns = plan[place][1]
    if check is not None and not is_check(columns, check):
        return False
    if type(names) is not tuple:
        return False
    places = places_of(columns, names)
    return None not in places and places == sorted(set(places))


def veiled(row, told):
    """The row with None for each worth that isn't told."""
    return tuple([worth if is_told else None for worth, is_told in zip(row, told)])


def seen_rows(columns, rows, right):
    """The bag of what is seen of these rows under the right of their table, whose columns these are."""
    if right is None:
        return ()
    check, names = right
    told = [name in names for name, _ in columns]
    return bag_of([veiled(row, told) for row in rows if check is None or holds(columns, check, row)])


def seen(plan, store, rights):
    """The store as it is seen under these rights."""
    return tuple([seen_rows(columns, bag, right) for (_, columns), bag, right in zip(plan, store, rights)])
