"""The forms of questions, and of pieces: what stands within them, and which columns they tell."""

from standviews.checks import has_word, is_check
from standviews.plans import kind_of, place_of, places_of
from standviews.rights import is_right
from standviews.worths import is_name, is_number

LENGTHS = {"all": 2, "see": 3, "where": 3, "pick": 3, "called": 3, "join": 5, "sums": 4, "once": 2, "lacking": 5,
           "first": 4}
# How many questions, or pieces, stand within each form: they are its last things.
WITHIN = {"all": 0, "see": 0, "where": 1, "pick": 1, "called": 1, "join": 2, "sums": 1, "once": 1, "lacking": 2,
          "first": 1}
WAYS = ("up", "down")


def just_within(form):
    """The questions, or pieces, that stand just within this one."""
    return form[len(form) - WITHIN[form[0]]:]


# Each function below tells the columns of a form, by those of what stands
# just within it, or None: what else is in the form may be anything.


def with_unlike_names(columns):
    """These columns; None where two have one name."""
    if len(set([name for name, _ in columns])) != len(columns):
        return None
    return columns


def named_columns(columns, names):
    """Those of these columns that have these names, so; None where names are no tuple of unlike names of them."""
    if type(names) is not tuple:
        return None
    places = places_of(columns, names)
    if None in places:
        return None
    return with_unlike_names(tuple([columns[place] for place in places]))


def where_columns(form, inner):
    """Those of a where."""
    if not is_check(inner[0], form[1]):
        return None
    return inner[0]


def pick_columns(form, inner):
    """Those of a pick."""
    told = named_columns(inner[0], form[1])
    if not told:
        return None
    return told


def called_columns(form, inner):
    """Those of a called."""
    names = form[1]
    if type(names) is not tuple or len(names) != len(inner[0]):
        return None
    if not all([is_name(name) for name in names]):
        return None
    return with_unlike_names(tuple([(name, kind) for name, (_, kind) in zip(names, inner[0])]))


def are_paired(form, inner):
    """Whether the form names a column of each side, of one kind."""
    kind = kind_of(inner[0], form[1])
    return kind is not None and kind == kind_of(inner[1], form[2])


def join_columns(form, inner):
    """Those of a join."""
    if not are_paired(form, inner):
        return None
    return with_unlike_names(inner[0] + inner[1])


def lacking_columns(form, inner):
    """Those of a lacking."""
    if not are_paired(form, inner):
        return None
    return inner[0]


def sum_kind(columns, word, column):
    """The kind of what is summed by this word over this column, both maybe anything; None where nothing is."""
    if type(word) is not str:
        return None
    if word == "count" and column is None:
        return "number"
    kind = kind_of(columns, column)
    if word in ("least", "most") or (word == "sum" and kind == "number"):
        return kind
    return None


def sum_column(columns, thing):
    """The column of this sum; None where it is none."""
    if type(thing) is not tuple or len(thing) != 3:
        return None
    name, word, column = thing
    kind = sum_kind(columns, word, column)
    if kind is None or not is_name(name):
        return None
    return (name, kind)


def sums_columns(form, inner):
    """Those of a sums."""
    _, names, sums, _ = form
    groups = named_columns(inner[0], names)
    if groups is None or type(sums) is not tuple or not sums:
        return None
    told = [sum_column(inner[0], thing) for thing in sums]
    if None in told:
        return None
    return with_unlike_names(groups + tuple(told))


def once_columns(form, inner):
    """Those of a once."""
    return inner[0]


def is_step(thing):
    """Whether this is a step of an order, whatever its column is."""
    return type(thing) is tuple and len(thing) == 2 and type(thing[1]) is str and thing[1] in WAYS


def is_order(columns, thing):
    """Whether this is an order of what has these columns."""
    if type(thing) is not tuple or not all([is_step(step) for step in thing]):
        return False
    return named_columns(columns, tuple([column for column, _ in thing])) is not None


def first_columns(form, inner):
    """Those of a first."""
    _, many, order, _ = form
    if not is_number(many) or many < 1 or not is_order(inner[0], order):
        return None
    return inner[0]


COLUMNS = {"where": where_columns, "pick": pick_columns, "called": called_columns, "join": join_columns,
           "sums": sums_columns, "once": once_columns, "lacking": lacking_columns, "first": first_columns}


def leaf_columns(plan, leaf):
    """The columns of the table that the leaf names; None where there is no such table, or right of it."""
    place = place_of(plan, leaf[1])
    if place is None:
        return None
    if leaf[0] == "see" and not is_right(plan, leaf[1], leaf[2]):
        return None
    return plan[place][1]


def columns_in(plan, word, thing):
    """The columns of what is made of leaves of this word: of questions it is all, of pieces see; None of what isn't."""
    if not has_word(thing) or LENGTHS.get(thing[0]) != len(thing):
        return None
    if thing[0] == word:
        return leaf_columns(plan, thing)
    if thing[0] not in COLUMNS:
        return None
    inner = []
    for form in just_within(thing):
        columns = columns_in(plan, word, form)
        if columns is None:
            return None
        inner.append(columns)
    columns_by = COLUMNS[thing[0]]
    return columns_by(thing, inner)


def is_piece(plan, thing):
    """Whether this is a piece."""
    return columns_in(plan, "see", thing) is not None
