"""Entries: what a house does and writes."""

# How many things each has, its word counted.
LENGTHS = {"deal": 2, "right": 4, "watch": 3, "end": 2}


def do_entry(house, entry):
    """Does the entry in the house; what that tells."""
    word = entry[0]
    if word == "deal":
        return house.deal(entry[1])
    if word == "right":
        return house.right(entry[1], entry[2], entry[3])
    if word == "watch":
        return house.watch(entry[1], entry[2])
    return house.end(entry[1])
