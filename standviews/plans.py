"""Columns, tables, plans and the rows of tables."""

from standviews.worths import is_name, is_number

KINDS = ("number", "name")


def fits(kind, worth):
    """Whether worth, which may be anything, fits a column of this kind."""
    if worth is None:
        return True
    if kind == "number":
        return is_number(worth)
    return is_name(worth)


def is_column(thing):
    """Whether this is a column."""
    if type(thing) is not tuple or len(thing) != 2:
        return False
    name, kind = thing
    return is_name(name) and type(kind) is str and kind in KINDS


def is_columns(thing):
    """Whether this is a table's columns."""
    if type(thing) is not tuple or not thing:
        return False
    if not all([is_column(column) for column in thing]):
        return False
    return len(set([name for name, _ in thing])) == len(thing)


def is_table(thing):
    """Whether this is a table."""
    if type(thing) is not tuple or len(thing) != 2:
        return False
    name, columns = thing
    return is_name(name) and is_columns(columns)


def is_plan(thing):
    """Whether this is a plan."""
    if type(thing) is not tuple or not thing:
        return False
    if not all([is_table(table) for table in thing]):
        return False
    names = [name for name, _ in thing]
    return names == sorted(set(names))


def place_of(named, name):
    """The place of the first of these columns, or tables, that has this name; None where none has, or it is none."""
    if not is_name(name):
        return None
    for place, (other, _) in enumerate(named):
        if other == name:
            return place
    return None


def places_of(named, names):
    """The places of these columns, or tables, by their names; None in the place of each that there isn't."""
    return [place_of(named, name) for name in names]


def kind_of(columns, name):
    """The kind of the column of this name; None where there is none."""
    place = place_of(columns, name)
    if place is None:
        return None
    return columns[place][1]


def is_row(plan, table, thing):
    """Whether this is a row of the plan's table of this name."""
    place = place_of(plan, table)
    if place is None:
        return False
    columns = plan[place][1]
    if type(thing) is not tuple or len(thing) != len(columns) or thing[0] is None:
        return False
    return all([fits(kind, worth) for (_, kind), worth in zip(columns, thing)])
