"""Changes of bags."""

from standviews.worths import bag_of, is_worth

# The change that changes nothing.
UNCHANGED = ((), ())


def is_bag_row(thing):
    """Whether this is a row as bags have them."""
    return type(thing) is tuple and all([is_worth(worth) for worth in thing])


def is_bag(thing):
    """Whether this is a tuple of rows, rising or not."""
    return type(thing) is tuple and all([is_bag_row(row) for row in thing])


def is_change(thing):
    """Whether this is a tuple of two such."""
    return type(thing) is tuple and len(thing) == 2 and all([is_bag(bag) for bag in thing])


def balance(more, less):
    """How often each row is in the bags of the one side more often than in those of the other."""
    many = {}
    for bag in more:
        for row in bag:
            many[row] = many.get(row, 0) + 1
    for bag in less:
        for row in bag:
            many[row] = many.get(row, 0) - 1
    return many


def surplus(more, less):
    """The bag of what the bags of the one side have more than those of the other."""
    many = balance(more, less)
    return bag_of([row for row in many for _ in range(many[row])])


def changed(bag, change):
    """The bag behind the change."""
    gone, come = change
    return surplus((bag, come), (gone,))


def between(bag, other):
    """The change that leads from the one bag to the other."""
    return (surplus((bag,), (other,)), surplus((other,), (bag,)))


def joined(one, two):
    """The one change that does what these two do, one behind the other."""
    gone = (one[0], two[0])
    come = (one[1], two[1])
    return (surplus(gone, come), surplus(come, gone))
