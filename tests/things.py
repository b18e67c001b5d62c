"""Things of any kind, to hand in where the document says "of anything", and what looks into what is told."""

import copy


class Text(str):
    pass


class Whole(int):
    pass


class Row(tuple):
    pass


class Odd:
    """An object that can't be hashed, shown, measured, tested or compared."""

    __hash__ = None

    def fails(self, *told):
        raise RuntimeError("an object was looked into")

    __eq__ = __ne__ = __lt__ = __gt__ = __len__ = __bool__ = __iter__ = __str__ = __repr__ = fails


def nested(inner, wrap, deep=20):
    """The inner thing, wrapped so many times."""
    for _ in range(deep):
        inner = wrap(inner)
    return inner


def anything():
    """New things of many kinds, none of them a plan, a row, a check, a dealing but (), a name or a number."""
    plain = [
        None, True, False, "", "A", "ab1", "a b", "aB", "\n", "a\n", "abcdefghi", "\u00e9", "\u0430", "\udc80",
        10 ** 9 + 1, -10 ** 9 - 1, 10 ** 5000,
        b"", b"a", [], ["a"], [1], {}, {"a": 1}, set(), {"a"}, frozenset({1}), range(3), iter(()), slice(1),
        object(), Odd(), Text("a"), Whole(1), Row(), Row((1,)), len, int, tuple, lambda: None, ValueError("a"), ...,
        (), ((),), ("",), (None,), (True,), ("a",), ("a", "b"), (1, 2), ([],), ("put",), (Odd(),),
        (Odd(), Odd(), Odd()),
    ]
    deep = [nested(inner, wrap) for inner in (None, 1, "a", (), [], {}, Odd())
            for wrap in (lambda x: (x,), lambda x: [x], lambda x: {"a": x}, lambda x: ("not", x),
                         lambda x: ("a", x), lambda x: (x, x))]
    return plain + deep


def is_plain(thing):
    """Whether this is made of tuples, whole numbers, texts, truths and None themselves alone."""
    if type(thing) is tuple:
        return all(is_plain(part) for part in thing)
    return thing is None or type(thing) in (int, str, bool)


def shown(thing):
    """The thing as a test that failed tells it: not all things can be shown."""
    try:
        return ascii(thing)[:300]
    except (ValueError, RuntimeError):
        return "a thing that can't be shown"


def copied(thing):
    """A copy to hold against what was handed in."""
    return copy.deepcopy(thing)


def spoilt(thing, path=()):
    """The thing with one thing in it, itself too, put as another kind: (how, where, the thing so), of each in turn.

    Nothing told here is made of tuples, whole numbers, texts and None alone as the thing is.
    """
    if type(thing) is tuple:
        others = [list(thing), Row(thing)]
    elif type(thing) is str:
        others = [Text(thing), thing.encode(), [thing], (thing,), thing.upper(), thing + " ", True]
    elif type(thing) is int:
        others = [Whole(thing), str(thing), bool(thing), [thing], (thing,)]
    else:
        others = [False]
    others += [Odd(), object(), b"", {}, [], nested(None, lambda x: (x,)), nested("a", lambda x: [x])]
    for other in others:
        yield other.__class__.__name__, path, other
    if type(thing) is tuple:
        for at, part in enumerate(thing):
            for how, where, other in spoilt(part, path + (at,)):
                yield how, where, thing[:at] + (other,) + thing[at + 1:]
