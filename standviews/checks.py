"""Checks of columns, and of which rows they hold."""

from standviews.plans import fits, kind_of, place_of
from standviews.worths import is_number

LENGTHS = {"is": 3, "below": 3, "like": 3, "not": 2, "and": 3, "or": 3}


def has_word(thing):
    """Whether this is a tuple with a text ahead."""
    return type(thing) is tuple and len(thing) > 0 and type(thing[0]) is str


def has_form(thing):
    """Whether this is a tuple with the word of a check ahead, and as long as that one is."""
    return has_word(thing) and LENGTHS.get(thing[0]) == len(thing)


def is_check(columns, thing):
    """Whether this is a check of these columns."""
    if not has_form(thing):
        return False
    word = thing[0]
    if word in ("not", "and", "or"):
        return all([is_check(columns, part) for part in thing[1:]])
    kind = kind_of(columns, thing[1])
    if kind is None:
        return False
    if word == "is":
        return fits(kind, thing[2])
    if word == "below":
        return kind == "number" and is_number(thing[2])
    return kind_of(columns, thing[2]) == kind


def holds(columns, check, row):
    """Whether the check of these columns holds of the row."""
    word = check[0]
    if word == "not":
        return not holds(columns, check[1], row)
    if word == "and":
        return holds(columns, check[1], row) and holds(columns, check[2], row)
    if word == "or":
        return holds(columns, check[1], row) or holds(columns, check[2], row)
    worth = row[place_of(columns, check[1])]
    if word == "is":
        return worth == check[2]
    if worth is None:
        return False
    if word == "below":
        return worth < check[2]
    return worth == row[place_of(columns, check[2])]
