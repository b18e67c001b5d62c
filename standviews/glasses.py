"""Glasses: what a watcher holds, afar."""

from standviews.answers import standing
from standviews.bags import changed
from standviews.letters import UNMARKED, is_change_letter, is_whole_letter


class Glass:
    """What the watcher w holds of the answers of its questions, by the letters that it hears."""

    def __init__(self, plan, w, questions):
        self._plan = plan
        self._w = w
        self._questions = questions
        self._life, self._k = UNMARKED
        self._bags = self._nothing()

    def hear(self, letter):
        """Takes the letter, where it goes on from what is held; whether it did."""
        bags = self._bags_by(letter)
        if bags is None:
            return False
        self._bags = bags
        # What changes and what wholes lead to stands in both ahead of the last thing.
        self._k = letter[-2]
        return True

    def mark(self):
        """(life, k): which number of its line it holds, -1 where it holds nothing."""
        return (self._life, self._k)

    def rows(self):
        """What it holds for each question, as this one's answer stands."""
        return tuple([standing(self._plan, question, bag) for question, bag in zip(self._questions, self._bags)])

    def say(self):
        """The letter that tells its mark."""
        return ("have", self._w, self._life, self._k)

    def cut(self):
        """It holds nothing, and lives on anew."""
        self._life += 1
        self._k = -1
        self._bags = self._nothing()

    def _nothing(self):
        """The bags while it holds nothing."""
        return tuple([() for _ in self._questions])

    def _bags_by(self, letter):
        """The bags that the letter leads to; None where it is left."""
        many = len(self._questions)
        if is_change_letter(letter, many) and letter[1:4] == (self._w, self._life, self._k):
            return tuple([changed(bag, change) for bag, change in zip(self._bags, letter[5])])
        if is_whole_letter(letter, many) and letter[1:3] == (self._w, self._life) and letter[3] > self._k:
            return letter[4]
        return None
