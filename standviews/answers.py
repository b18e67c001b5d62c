"""The answers of questions."""

from standviews.checks import holds
from standviews.forms import just_within
from standviews.plans import place_of, places_of
from standviews.questions import columns_of
from standviews.worths import bag_of, row_place, worth_place


def picked(row, places):
    """The row of the worths at these places."""
    return tuple([row[place] for place in places])


# Each function below tells the rows of a form, as many of each as come, by
# the columns and the rows of each question, or piece, just within it.


def where_rows(form, columns, rows):
    """Those of a where."""
    return [row for row in rows[0] if holds(columns[0], form[1], row)]


def pick_rows(form, columns, rows):
    """Those of a pick."""
    places = places_of(columns[0], form[1])
    return [picked(row, places) for row in rows[0]]


def called_rows(form, columns, rows):
    """Those of a called."""
    return list(rows[0])


def join_rows(form, columns, rows):
    """Those of a join."""
    left = place_of(columns[0], form[1])
    right = place_of(columns[1], form[2])
    others = {}
    for row in rows[1]:
        if row[right] is not None:
            others.setdefault(row[right], []).append(row)
    return [row + other for row in rows[0] for other in others.get(row[left], [])]


def summed(columns, told, rows):
    """The worth of this sum over these rows of one group."""
    _, word, column = told
    if word == "count":
        return len(rows)
    place = place_of(columns, column)
    worths = [row[place] for row in rows if row[place] is not None]
    if word == "sum":
        return sum(worths)
    if word == "least":
        return min(worths, default=None)
    return max(worths, default=None)


def sums_rows(form, columns, rows):
    """Those of a sums."""
    _, names, sums, _ = form
    places = places_of(columns[0], names)
    groups = {}
    for row in rows[0]:
        groups.setdefault(picked(row, places), []).append(row)
    return [group + tuple([summed(columns[0], told, of_it) for told in sums]) for group, of_it in groups.items()]


def once_rows(form, columns, rows):
    """Those of a once."""
    return list({row: True for row in rows[0]})


def lacking_rows(form, columns, rows):
    """Those of a lacking."""
    left = place_of(columns[0], form[1])
    right = place_of(columns[1], form[2])
    there = {row[right]: True for row in rows[1] if row[right] is not None}
    return [row for row in rows[0] if row[left] not in there]


def sorted_by(place, way, rows):
    """The rows by the worths at this place, up or down; those that are alike there stay as they stand."""
    if way == "up":
        return sorted(rows, key=lambda row: worth_place(row[place]))
    return sorted(rows, key=lambda row: worth_place(row[place]), reverse=True)


def in_order(columns, order, rows):
    """The rows as the order goes."""
    told = sorted(rows, key=row_place)
    # The last one first: what is sorted later counts for more, as alike ones stay as they stand.
    for column, way in order[::-1]:
        told = sorted_by(place_of(columns, column), way, told)
    return told


def first_rows(form, columns, rows):
    """Those of a first, as its order goes."""
    _, many, order, _ = form
    return in_order(columns[0], order, rows[0])[:many]


ROWS = {"where": where_rows, "pick": pick_rows, "called": called_rows, "join": join_rows, "sums": sums_rows,
        "once": once_rows, "lacking": lacking_rows, "first": first_rows}


def form_rows(form, columns, rows):
    """The rows of a form that is no leaf, by the columns and the rows of what stands just within it."""
    rows_by = ROWS[form[0]]
    return rows_by(form, columns, rows)


def question_rows(plan, question, store):
    """The rows of the question's answer; as its order goes, where it is a first."""
    if question[0] == "all":
        return store[place_of(plan, question[1])]
    within = just_within(question)
    columns = [columns_of(plan, inner) for inner in within]
    return form_rows(question, columns, [question_rows(plan, inner, store) for inner in within])


def standing(plan, question, bag):
    """The rows of the bag as the question's answer stands."""
    if question[0] == "first":
        return tuple(in_order(columns_of(plan, question), question[2], bag))
    return bag


def answer(plan, question, store):
    """The answer of the question over the store, or over what is seen of one."""
    rows = question_rows(plan, question, store)
    if question[0] == "first":
        return tuple(rows)
    return bag_of(rows)
