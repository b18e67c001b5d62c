"""The desk: a scene that is asked and answers by lines of text."""

from standviews.entries import LENGTHS
from standviews.errors import NoLine, NoText, ViewError
from standviews.reading import read_entry
from standviews.scenes import Scene
from standviews.showing import show_bag
from standviews.words import Words

KEEP = True
# How many numbers stand behind the word of each line that is no written row.
NUMBERS = {"beat": 1, "bring": 2, "lose": 2, "double": 2, "say": 1, "carry": 2, "drop": 2, "cut": 1, "off": 1,
           "fold": 0, "fall": 0, "glass": 1, "moment": 0, "works": 0}


def read_other(line):
    """What the line, which is no written row, says: its word and its numbers."""
    words = Words(line)
    word = words.take_one_of(list(NUMBERS))
    said = (word,) + tuple([words.take_count() for _ in range(NUMBERS[word])])
    words.finish()
    return said


def read_line(plan, line):
    """What the line says, as an entry of a scene or as one of those that only ask."""
    try:
        if Words(line).take() in LENGTHS:
            return read_entry(plan, line)
        return read_other(line)
    except NoText:
        raise NoLine() from None


def show_letter(letter):
    """A letter to a watcher, written."""
    if letter[0] == "whole":
        bags = letter[4]
    else:
        bags = [bag for change in letter[5] for bag in change]
    numbers = [str(number) for number in letter[2:-1]]
    return " ".join([letter[0], *numbers, *[show_bag(bag) for bag in bags]])


def show_glass(mark, rows):
    """What a glass holds, written."""
    return " ".join([str(number) for number in mark] + [show_bag(bag) for bag in rows])


def show_told(told):
    """What a step of a scene tells, written."""
    if told is None:
        return "none"
    if told is True:
        return "yes"
    if told is False:
        return "no"
    if type(told) is tuple:
        return show_letter(told)
    return str(told)


class Desk:
    """A desk over a scene of its own, and a log of what it was asked."""

    def __init__(self, plan):
        self._scene = Scene(plan)
        self._plan = plan
        # The entries that were done: all that the scene is follows from them.
        self._done = []
        self._log = []

    def say(self, line):
        """Does what the line says; the answer."""
        try:
            told = self._answer(read_line(self._plan, line))
        except ViewError:
            self._log.append("refused")
            raise
        self._log.append("said")
        return told

    def say_all(self, lines, *, keep=KEEP):
        """Says one line after the other, up to the first that is refused; the answers."""
        many = len(self._done)
        self._log.append("open")
        try:
            return self._say_each(lines)
        except ViewError:
            if keep is not True:
                self._go_back(many)
            raise
        finally:
            self._log.append("shut")

    def log(self):
        """What became of each line said, in order."""
        return tuple(self._log)

    def _answer(self, said):
        """Does what was said; the answer."""
        if said[0] == "glass":
            mark, rows = self._scene.glass(said[1])
            return show_glass(mark, rows)
        if said[0] == "moment":
            return str(self._scene.house().moment())
        if said[0] == "works":
            return str(self._scene.house().total())
        told = self._scene.step(said)
        self._done.append(said)
        return show_told(told)

    def _say_each(self, lines):
        """Says one line after the other; the answers."""
        if type(lines) is not tuple:
            raise NoLine()
        return tuple([self.say(line) for line in lines])

    def _go_back(self, many):
        """All is as it was behind the first so many entries."""
        self._done = self._done[:many]
        self._scene = Scene(self._plan)
        self._scene.walk(tuple(self._done))
