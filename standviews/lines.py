"""Lines: the unlike answers of a watcher, one behind the other."""

from standviews.bags import UNCHANGED, changed, joined
from standviews.worths import is_whole

KEPT = 8


class Line:
    """A watcher's newest answers, and the kept last changes that led to them."""

    def __init__(self, bags, moment, *, kept=KEPT):
        self._most = kept
        self._newest = 0
        self._answers = bags
        self._changes = []
        # One more than the changes: the moment of the number that the oldest one leads from stays, too.
        self._begun = [moment]

    def put(self, changes, moment):
        """The next number begins at the moment, by these changes; nothing where all of them are empty."""
        if all([change == UNCHANGED for change in changes]):
            return
        self._newest += 1
        self._answers = tuple([changed(bag, change) for bag, change in zip(self._answers, changes)])
        self._changes.append(changes)
        self._begun.append(moment)
        if len(self._changes) > self._most:
            del self._changes[0]
            del self._begun[0]

    def number(self):
        """The newest number."""
        return self._newest

    def bags(self):
        """The newest answers."""
        return self._answers

    def since(self, number):
        """The changes from this number's answers to the newest; None where it isn't one, or not kept."""
        oldest = self._newest - len(self._changes)
        if not is_whole(number) or not oldest <= number <= self._newest:
            return None
        told = [UNCHANGED for _ in self._answers]
        for changes in self._changes[number - oldest:]:
            told = [joined(one, two) for one, two in zip(told, changes)]
        return tuple(told)

    def moments(self):
        """The numbers from the oldest that the kept changes lead from, each with the moment at which it began."""
        oldest = self._newest - len(self._changes)
        return tuple(enumerate(self._begun, start=oldest))

    def kept_steps(self):
        """What led on from the oldest of moments, the eldest ahead: (the moment at which a number began, changes)."""
        return tuple(zip(self._begun[1:], self._changes))

    def count_on(self, number):
        """Its newest number is this from now on."""
        self._newest = number


def line_up_to(bags, steps, oldest, when, kept):
    """The line whose newest answers are these bags, by these steps from the oldest number, which began then."""
    for _, changes in reversed(steps):
        bags = tuple([changed(bag, (come, gone)) for bag, (gone, come) in zip(bags, changes)])
    line = Line(bags, when, kept=kept)
    line.count_on(oldest)
    for moment, changes in steps:
        line.put(changes, moment)
    return line
