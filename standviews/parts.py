"""Pieces: questions under rights, and the pieces within them."""

from standviews.forms import just_within
from standviews.plans import place_of
from standviews.showing import show_question


def under(plan, question, rights):
    """The piece that the question is under these rights."""
    if question[0] == "all":
        table = question[1]
        return ("see", table, rights[place_of(plan, table)])
    within = just_within(question)
    ahead = question[:len(question) - len(within)]
    return ahead + tuple([under(plan, inner, rights) for inner in within])


def gather(piece, found):
    """Puts the piece and all pieces in it into found, by their texts."""
    found[show_question(piece)] = piece
    for inner in just_within(piece):
        gather(inner, found)


def parts_of(piece):
    """All pieces in this one, itself too, each once, rising by their texts."""
    found = {}
    gather(piece, found)
    return tuple([found[text] for text in sorted(found)])
