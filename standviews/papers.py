"""Papers: which moments made a letter."""

from standviews.checks import has_word
from standviews.errors import NoPaper, NoWatcher
from standviews.letters import is_mark

LENGTHS = {"change": 6, "whole": 5}


def is_alike(thing, told):
    """Whether the thing, which may be anything, is what was told."""
    # By their very classes: else a truth would be alike to a number, and an object could say that it is alike.
    if type(told) is tuple:
        if type(thing) is not tuple or len(thing) != len(told):
            return False
        return all([is_alike(part, other) for part, other in zip(thing, told)])
    return type(thing) is type(told) and thing == told


def sent_instead(house, letter):
    """What the house would send now by the mark from which the letter goes on; None where there is no such mark."""
    if not has_word(letter) or LENGTHS.get(letter[0]) != len(letter):
        return None
    life = letter[2]
    k = letter[3] if letter[0] == "change" else -1
    if not is_mark(life, k):
        return None
    try:
        return house.letter_by(letter[1], (life, k))
    except NoWatcher:
        return None


def is_sent(house, letter):
    """Whether the house would send the letter now, by any mark that it had heard."""
    sent = sent_instead(house, letter)
    return sent is not None and is_alike(letter, sent)


def moments_of(house, letter):
    """The moments of the numbers that made the letter, one that the house would send."""
    m = letter[-2]
    k = letter[3] if letter[0] == "change" else m - 1
    _, _, moments = house.line(letter[1])
    return tuple([moment for number, moment in moments if k < number <= m])


def paper(house, letter):
    """The paper of the letter: the moments that made it."""
    if not is_sent(house, letter):
        raise NoPaper()
    return moments_of(house, letter)


def shows_paper(house, letter, thing):
    """Whether the thing is the paper of the letter."""
    return is_sent(house, letter) and is_alike(thing, moments_of(house, letter))
