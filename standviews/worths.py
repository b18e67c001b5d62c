"""Worths, their order and that of rows, and bags."""

GREATEST = 10 ** 9
LONGEST = 8


# Here and in all that asks "of anything", what a thing is goes by its very
# class: a truth is no number, and what is of a class below is an object.


def is_whole(thing):
    """Whether this is a whole number, however great."""
    return type(thing) is int


def is_count(thing):
    """Whether this is a whole number from 0, however great."""
    return is_whole(thing) and thing >= 0


def is_number(thing):
    """Whether this is a number as a worth may be one."""
    return is_whole(thing) and -GREATEST <= thing <= GREATEST


def is_name(thing):
    """Whether this is a text of 1 to 8 letters a to z."""
    if type(thing) is not str or not 1 <= len(thing) <= LONGEST:
        return False
    return all(["a" <= letter <= "z" for letter in thing])


def is_worth(thing):
    """Whether this is a worth, maybe a sum's, however great."""
    return thing is None or is_whole(thing) or is_name(thing)


def worth_place(worth):
    """What worths are sorted by: Python itself compares None, numbers and names with their own kind alone."""
    if worth is None:
        return (0, 0)
    if is_whole(worth):
        return (1, worth)
    return (2, worth)


def row_place(row):
    """What rows are sorted by."""
    return tuple([worth_place(worth) for worth in row])


def bag_of(rows):
    """The bag of these rows."""
    return tuple(sorted(rows, key=row_place))
