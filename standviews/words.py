"""Texts, read word by word; what isn't so written is refused with NoText(0)."""

from standviews.errors import NoText
from standviews.worths import is_name

# How many figures a number has at most; and one of a bag, which may be a sum.
FIGURES = 10
SUM_FIGURES = 16


def read_figures(word, longest):
    """The number from 0 that is written by these plain figures, at most so many."""
    if not 1 <= len(word) <= longest or not all(["0" <= sign <= "9" for sign in word]):
        raise NoText(0)
    if word[0] == "0" and word != "0":
        raise NoText(0)
    return int(word)


def read_number(word, longest):
    """The number that is written so, by at most so many figures."""
    if not word.startswith("-"):
        return read_figures(word, longest)
    number = read_figures(word[1:], longest)
    if number == 0:
        raise NoText(0)
    return -number


def read_worth(word, longest):
    """The worth that is written so, a number by at most so many figures."""
    if word == "~":
        return None
    if is_name(word):
        return word
    return read_number(word, longest)


def read_row(word):
    """The row of a bag that is written so."""
    return tuple([read_worth(worth, SUM_FIGURES) for worth in word.split(",")])


def read_bag(word):
    """The bag that is written so."""
    if word == "-":
        return ()
    return tuple([read_row(row) for row in word.split(";")])


class Words:
    """The words of a text, each taken once, in their order."""

    def __init__(self, text):
        if type(text) is not str:
            raise NoText(0)
        self._words = text.split(" ")
        self._taken = 0

    def are_left(self):
        """Whether a word is left."""
        return self._taken < len(self._words)

    def finish(self):
        """Refuses a text of which a word is left."""
        if self.are_left():
            raise NoText(0)

    def take(self):
        """The next word."""
        if not self.are_left():
            raise NoText(0)
        self._taken += 1
        return self._words[self._taken - 1]

    def take_one_of(self, known):
        """The next word, one of these."""
        word = self.take()
        if word not in known:
            raise NoText(0)
        return word

    def take_name(self):
        """The next word, a name."""
        word = self.take()
        if not is_name(word):
            raise NoText(0)
        return word

    def take_names(self):
        """How many names there are, and they."""
        return tuple([self.take_name() for _ in range(self.take_count())])

    def take_count(self):
        """The next word, a number from 0, without a stroke."""
        return read_figures(self.take(), FIGURES)

    def take_number(self):
        """The next word, a number."""
        return read_number(self.take(), FIGURES)

    def take_worth(self):
        """The next word, a worth."""
        return read_worth(self.take(), FIGURES)

    def take_bag(self):
        """The next word, a bag."""
        return read_bag(self.take())
