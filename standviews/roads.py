"""Roads: the letters that are underway, in a room for so many."""

from standviews.errors import Full, NoLetter
from standviews.worths import is_whole

ROOM = 4


class Road:
    """The letters on it, in order."""

    def __init__(self, *, room=ROOM):
        self._room = room
        self._letters = []

    def put(self, letter):
        """The letter is the last one on it; whether there was room."""
        if len(self._letters) >= self._room:
            return False
        self._letters.append(letter)
        return True

    def letters(self):
        """All letters on it, in order."""
        return tuple(self._letters)

    def bring(self, i):
        """The i-th letter, which is gone then."""
        self._check(i)
        return self._letters.pop(i)

    def lose(self, i):
        """The i-th letter is gone."""
        self._check(i)
        del self._letters[i]

    def double(self, i):
        """The i-th letter is there once more, as the last one."""
        self._check(i)
        if not self.put(self._letters[i]):
            raise Full()

    def _check(self, i):
        """Refuses what is no place of a letter."""
        if not is_whole(i) or not 0 <= i < len(self._letters):
            raise NoLetter(i)
