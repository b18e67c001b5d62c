"""How questions, rights and entries are read: what isn't so written is refused with NoText(0)."""

from standviews.errors import NoText
from standviews.forms import WAYS, WITHIN
from standviews.plans import place_of
from standviews.words import Words


def read_tree(words, read_ahead):
    """The form that the words go on with, and those within it, as deep as they are.

    read_ahead reads what a form has ahead of those just within it, and tells this and how many of these there are.
    """
    begun = []
    while True:
        ahead, lacking = read_ahead(words)
        begun.append((ahead, lacking))
        while begun[-1][1] == 0:
            form, _ = begun.pop()
            if not begun:
                return form
            outer, many = begun.pop()
            begun.append((outer + (form,), many - 1))


CHECKS = ("is", "below", "like", "not", "and", "or")


def check_ahead(words):
    """What a check has ahead of those within it, and how many these are."""
    word = words.take_one_of(CHECKS)
    if word == "not":
        return (word,), 1
    if word in ("and", "or"):
        return (word,), 2
    column = words.take_name()
    if word == "is":
        return (word, column, words.take_worth()), 0
    if word == "below":
        return (word, column, words.take_number()), 0
    return (word, column, words.take_name()), 0


def take_check(words):
    """The check that the words go on with."""
    return read_tree(words, check_ahead)


# Each function below tells what a form has between its word and what stands
# just within it.


def table_things(words):
    """That of an all."""
    return (words.take_name(),)


def where_things(words):
    """That of a where."""
    return (take_check(words),)


def names_things(words):
    """That of a pick, a called."""
    return (words.take_names(),)


def paired_things(words):
    """That of a join, a lacking."""
    return (words.take_name(), words.take_name())


def take_sum(words):
    """The sum of a sums that the words go on with."""
    name = words.take_name()
    word = words.take_one_of(("count", "sum", "least", "most"))
    if word == "count":
        return (name, word, None)
    return (name, word, words.take_name())


def sums_things(words):
    """That of a sums."""
    names = words.take_names()
    return (names, tuple([take_sum(words) for _ in range(words.take_count())]))


def once_things(words):
    """That of a once: it has nothing there."""
    return ()


def take_step(words):
    """The step of an order that the words go on with."""
    return (words.take_name(), words.take_one_of(WAYS))


def first_things(words):
    """That of a first."""
    many = words.take_count()
    return (many, tuple([take_step(words) for _ in range(words.take_count())]))


QUESTIONS = {"all": table_things, "where": where_things, "pick": names_things, "called": names_things,
             "join": paired_things, "sums": sums_things, "once": once_things, "lacking": paired_things,
             "first": first_things}


def question_ahead(words):
    """What a question has ahead of those within it, and how many these are."""
    word = words.take_one_of(list(QUESTIONS))
    things = QUESTIONS[word]
    return (word,) + things(words), WITHIN[word]


def take_question(words):
    """The question that the words go on with."""
    return read_tree(words, question_ahead)


def take_questions(words):
    """How many questions there are, and they."""
    return tuple([take_question(words) for _ in range(words.take_count())])


def take_right(words):
    """The right that the words go on with."""
    word = words.take_one_of(("none", "all", "rows"))
    if word == "none":
        return None
    if word == "all":
        return (None, words.take_names())
    check = take_check(words)
    return (check, words.take_names())


def take_row(plan, words):
    """A table of the plan, and a row of as many worths as it has columns, that the words go on with."""
    table = words.take_name()
    place = place_of(plan, table)
    if place is None:
        raise NoText(0)
    return (table, tuple([words.take_worth() for _ in plan[place][1]]))


def take_change(plan, words):
    """The change of a dealing that the words go on with."""
    word = words.take_one_of(("put", "drop"))
    if word == "put":
        return (word,) + take_row(plan, words)
    return (word, words.take_name(), words.take_worth())


# Each function below tells what an entry has behind its word.


def deal_things(plan, words):
    """That of a deal."""
    changes = []
    while words.are_left():
        changes.append(take_change(plan, words))
    return (tuple(changes),)


def right_things(plan, words):
    """That of a right."""
    return (words.take_name(), words.take_name(), take_right(words))


def watch_things(plan, words):
    """That of a watch."""
    return (words.take_name(), take_questions(words))


def end_things(plan, words):
    """That of an end."""
    return (words.take_count(),)


ENTRIES = {"deal": deal_things, "right": right_things, "watch": watch_things, "end": end_things}


def read_question(text):
    """The question that is written so."""
    words = Words(text)
    question = take_question(words)
    words.finish()
    return question


def read_right(text):
    """The right that is written so."""
    words = Words(text)
    right = take_right(words)
    words.finish()
    return right


def read_entry(plan, text):
    """The entry that is written so."""
    words = Words(text)
    word = words.take_one_of(list(ENTRIES))
    things = ENTRIES[word]
    entry = (word,) + things(plan, words)
    words.finish()
    return entry
