"""Posts: what a watcher has afar, and what is done there."""

from standviews.glasses import Glass
from standviews.roads import Road

FULL = "full"


class Post:
    """The glass of the watcher w, the road to it and the road back."""

    def __init__(self, plan, w, questions, room):
        self.w = w
        self.pane = Glass(plan, w, questions)
        self.way_to = Road(room=room)
        self.way_back = Road(room=room)

    def send(self, letter):
        """Puts the letter, if there is one, on the road to it; tells what comes of that."""
        if letter is None or self.way_to.put(letter):
            return letter
        return FULL


def lose_all(road):
    """The road is empty."""
    while road.letters():
        road.lose(0)


# Each function below does one thing at the post, and tells what an entry of
# this name tells.


def beat(house, post):
    """The house sends what it wants."""
    return post.send(house.beat(post.w))


def say(house, post):
    """It says what it has."""
    return post.way_back.put(post.pane.say())


def cut(house, post):
    """It is cut."""
    post.pane.cut()
    return True


def off(house, post):
    """All letters are lost."""
    lose_all(post.way_to)
    lose_all(post.way_back)
    return True


def bring(house, post, i):
    """It hears the i-th letter."""
    return post.pane.hear(post.way_to.bring(i))


def lose(house, post, i):
    """The i-th letter to it is lost."""
    post.way_to.lose(i)
    return True


def double(house, post, i):
    """The i-th letter to it is there once more."""
    post.way_to.double(i)
    return True


def carry(house, post, i):
    """The house hears the i-th letter on the road back."""
    return house.heard(post.way_back.bring(i))


def drop(house, post, i):
    """The i-th letter on the road back is lost."""
    post.way_back.lose(i)
    return True


def bring_all(house, post):
    """It hears all letters, as they stand."""
    while post.way_to.letters():
        bring(house, post, 0)


def carry_all(house, post):
    """The house hears all letters on the road back, as they stand."""
    while post.way_back.letters():
        carry(house, post, 0)


AT_POSTS = {"beat": beat, "say": say, "cut": cut, "off": off}
AT_LETTERS = {"bring": bring, "lose": lose, "double": double, "carry": carry, "drop": drop}
