"""How a house comes up again from what was written."""

from standviews.entries import do_entry
from standviews.errors import NoText, ViewError
from standviews.houses import House
from standviews.lines import KEPT
from standviews.pictures import begins_with_picture, read_picture
from standviews.reading import read_entry


def do_row(plan, house, row):
    """Does in the house what the row of its text tells."""
    do_entry(house, read_entry(plan, row))


def come_up(plan, text, *, kept=KEPT):
    """The house that wrote the text, but for what it had heard, whose turn it was, and its works."""
    house = House(plan, kept=kept)
    if type(text) is not str:
        raise NoText(0)
    # What stands behind the last line feed is a row that was torn, or nothing.
    rows = text.split("\n")[:-1]
    begun = 0
    if begins_with_picture(rows):
        picture, begun = read_picture(plan, rows)
        house.stand_as(picture)
    for at in range(begun, len(rows)):
        try:
            do_row(plan, house, rows[at])
        except ViewError:
            raise NoText(at) from None
    return house
