"""Scenes: a house, and for each that watches a glass, a road to it and a road back."""

from standviews.checks import has_word
from standviews.coming import come_up
from standviews.entries import LENGTHS, do_entry
from standviews.errors import NoEntry, NoScript, NoWatcher
from standviews.houses import House
from standviews.lines import KEPT
from standviews.posts import AT_LETTERS, AT_POSTS, Post, beat, bring_all, carry_all, say
from standviews.roads import ROOM
from standviews.showing import show_entry
from standviews.worths import is_whole

# How many things those entries have that a house doesn't write, their words counted.
OTHERS = {"beat": 2, "turn": 2, "bring": 3, "lose": 3, "double": 3, "say": 2, "carry": 3, "drop": 3, "cut": 2,
          "off": 2, "fold": 1, "fall": 1, "torn": 3}


def is_written(thing):
    """Whether this is by its form an entry that a house writes."""
    return has_word(thing) and LENGTHS.get(thing[0]) == len(thing)


def is_from_one(thing):
    """Whether this is a whole number from 1."""
    return is_whole(thing) and thing >= 1


def is_entry(thing):
    """Whether this is by its form an entry of a scene."""
    if is_written(thing):
        return True
    if not has_word(thing) or OTHERS.get(thing[0]) != len(thing):
        return False
    if thing[0] == "turn":
        return is_from_one(thing[1])
    if thing[0] == "torn":
        return is_written(thing[1]) and is_from_one(thing[2])
    return True


class Scene:
    """A house of the tables of a plan, and what those have who watch it."""

    def __init__(self, plan, *, kept=KEPT, room=ROOM):
        self._house = House(plan, kept=kept)
        self._plan = plan
        self._kept = kept
        self._room = room
        # By their numbers, rising.
        self._posts = {}

    def step(self, entry):
        """Does the entry; what that tells."""
        if not is_entry(entry):
            raise NoEntry()
        word = entry[0]
        if word in LENGTHS:
            return self._write(entry)
        if word == "turn":
            return self._turn(entry[1])
        if word == "torn":
            return self._tear(entry[1], entry[2])
        if word == "fold":
            self._house.fold()
            return True
        if word == "fall":
            self._fall("")
            return True
        return self._at_post(entry)

    def walk(self, script):
        """Does the entries of the script; what all of them tell."""
        if type(script) is not tuple:
            raise NoScript()
        return tuple([self.step(entry) for entry in script])

    def house(self):
        """The house itself."""
        return self._house

    def glass(self, w):
        """(mark, rows) of the glass of w."""
        pane = self._post(w).pane
        return (pane.mark(), pane.rows())

    def road(self, w):
        """The letters on the road to w."""
        return self._post(w).way_to.letters()

    def back(self, w):
        """The letters on the road back from w."""
        return self._post(w).way_back.letters()

    def rounds(self, many):
        """So many rounds: all have a beat, hear all letters, say what they have, and the house hears all that."""
        for _ in range(many):
            for act in (beat, bring_all, say, carry_all):
                for post in self._posts.values():
                    act(self._house, post)

    def _post(self, w):
        """What the watcher of this number has; refused where none is."""
        if not is_whole(w) or w not in self._posts:
            raise NoWatcher(w)
        return self._posts[w]

    def _write(self, entry):
        """An entry that the house does and writes."""
        told = do_entry(self._house, entry)
        if entry[0] == "watch":
            self._posts[told] = Post(self._plan, told, entry[2], self._room)
        if entry[0] == "end":
            del self._posts[entry[1]]
            return True
        return told

    def _turn(self, load):
        """The house's turn: each letter is put on its road."""
        return tuple([(w, self._posts[w].send(letter)) for w, letter in self._house.turn(load)])

    def _fall(self, torn):
        """The house comes up from its text, behind which this was torn."""
        self._house = self._up_by(torn)

    def _up_by(self, torn):
        """A house that comes up from the text, with this behind it."""
        return come_up(self._plan, self._house.written() + torn, kept=self._kept)

    def _tear(self, entry, many):
        """The house falls amid the entry, so many signs of its row not yet written."""
        # Another house is refused as this one is, and does what this one is not to have done.
        do_entry(self._up_by(""), entry)
        row = show_entry(entry) + "\n"
        if many > len(row):
            raise NoEntry()
        self._fall(row[:len(row) - many])
        return True

    def _at_post(self, entry):
        """An entry of what one watcher has."""
        post = self._post(entry[1])
        if entry[0] in AT_POSTS:
            act = AT_POSTS[entry[0]]
            return act(self._house, post)
        act = AT_LETTERS[entry[0]]
        return act(self._house, post, entry[2])
