"""Letters: what a watcher is sent of its line, and what it says that it has."""

from standviews.bags import is_bag, is_change
from standviews.checks import has_word
from standviews.worths import is_count, is_whole

# The mark of one that holds nothing, in its first life.
UNMARKED = (0, -1)


def rows_in_bags(bags):
    """How many rows there are in these bags."""
    return sum([len(bag) for bag in bags])


def rows_in_changes(changes):
    """How many rows are gone and have come by these changes."""
    return sum([rows_in_bags(change) for change in changes])


def letter_for(w, mark, line):
    """The letter that the watcher w wants, of whose line it has this mark; None where that is the newest."""
    life, k = mark
    newest = line.number()
    if k == newest:
        return None
    changes = line.since(k)
    # Of -1, which is nothing held, since is None, too.
    if changes is None or rows_in_changes(changes) > rows_in_bags(line.bags()):
        return ("whole", w, life, newest, line.bags())
    return ("change", w, life, k, newest, changes)


def is_mark(life, k):
    """Whether a mark has this life, and this k."""
    return is_count(life) and is_whole(k) and k >= -1


def is_have(thing):
    """Whether this is a have."""
    if not has_word(thing) or thing[0] != "have" or len(thing) != 4:
        return False
    _, w, life, k = thing
    return is_count(w) and is_mark(life, k)


def is_change_letter(thing, many):
    """Whether this is a change's letter, of so many changes."""
    if not has_word(thing) or thing[0] != "change" or len(thing) != 6:
        return False
    if not all([is_whole(number) for number in thing[1:5]]) or type(thing[5]) is not tuple:
        return False
    return len(thing[5]) == many and all([is_change(change) for change in thing[5]])


def is_whole_letter(thing, many):
    """Whether this is the letter of a whole one, of so many bags."""
    if not has_word(thing) or thing[0] != "whole" or len(thing) != 5:
        return False
    if not all([is_whole(number) for number in thing[1:4]]) or type(thing[4]) is not tuple:
        return False
    return len(thing[4]) == many and all([is_bag(bag) for bag in thing[4]])
