"""The store: what the tables hold, and how dealings change it."""

from standviews.errors import NoDeal
from standviews.plans import fits, is_row, place_of
from standviews.worths import bag_of


def empty(plan):
    """The store that holds no row."""
    return tuple([() for _ in plan])


def put_row(plan, table, rows, row):
    """Puts the row among these, by their keys, of the table; whether it is one of it."""
    if not is_row(plan, table, row):
        return False
    rows[row[0]] = row
    return True


def drop_row(columns, rows, key):
    """Drops the row of this key from these, by their keys; whether it was there."""
    # The key may be anything: what doesn't fit can't be looked up safely, as a truth is alike to a number there.
    if not fits(columns[0][1], key) or key not in rows:
        return False
    del rows[key]
    return True


def take_change(plan, tables, change):
    """Does the change to tables, each its rows by their keys; whether it could be done."""
    if type(change) is not tuple or len(change) != 3:
        return False
    word, table, thing = change
    place = place_of(plan, table)
    if place is None or type(word) is not str:
        return False
    if word == "put":
        return put_row(plan, table, tables[place], thing)
    if word == "drop":
        return drop_row(plan[place][1], tables[place], thing)
    return False


def dealt(plan, store, dealing):
    """The store behind the dealing; NoDeal at the first change that can't be done, NoDeal of None of no tuple."""
    if type(dealing) is not tuple:
        raise NoDeal(None)
    tables = [{row[0]: row for row in bag} for bag in store]
    for at, change in enumerate(dealing):
        if not take_change(plan, tables, change):
            raise NoDeal(at)
    return tuple([bag_of(list(rows.values())) for rows in tables])


def without(bag, other):
    """The rows of the one bag, none of them twice, that aren't in the other."""
    there = {row: True for row in other}
    return tuple([row for row in bag if row not in there])


def net(plan, store, other):
    """For each table of the plan: the rows that are gone from the one store to the other, and those that came."""
    places = range(len(plan))
    return tuple([(without(store[k], other[k]), without(other[k], store[k])) for k in places])
