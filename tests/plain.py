"""The document's words on questions, rights and pieces, done in the plainest way, to hold the program against.

Nothing here is imported from the program.
"""

import functools


def rank(worth):
    if worth is None:
        return (0,)
    return (1, worth) if type(worth) is int else (2, worth)


def compare(one, other):
    """Below 0, 0 or above 0, as the one worth is ahead of the other, alike, behind it."""
    return (rank(one) > rank(other)) - (rank(one) < rank(other))


def compare_rows(one, other):
    for a, b in zip(one, other):
        if compare(a, b):
            return compare(a, b)
    return len(one) - len(other)


def bag(rows):
    return tuple(sorted(rows, key=functools.cmp_to_key(compare_rows)))


def columns(plan, question):
    """The columns of a question or a piece that is known to be one."""
    word = question[0]
    if word in ("all", "see"):
        return dict(plan)[question[1]]
    inner = columns(plan, question[-1])
    if word == "pick":
        return tuple((name, dict(inner)[name]) for name in question[1])
    if word == "called":
        return tuple((name, kind) for name, (_, kind) in zip(question[1], inner))
    if word == "join":
        return columns(plan, question[3]) + inner
    if word == "lacking":
        return columns(plan, question[3])
    if word == "sums":
        made = [(name, "number" if way in ("count", "sum") else dict(inner)[column])
                for name, way, column in question[2]]
        return tuple((name, dict(inner)[name]) for name in question[1]) + tuple(made)
    return inner


def holds(check, row):
    """The row is a dict by the columns' names."""
    word = check[0]
    if word == "not":
        return not holds(check[1], row)
    if word == "and":
        return holds(check[1], row) and holds(check[2], row)
    if word == "or":
        return holds(check[1], row) or holds(check[2], row)
    if word == "is":
        return row[check[1]] == check[2]
    if word == "below":
        return row[check[1]] is not None and row[check[1]] < check[2]
    return row[check[1]] is not None and row[check[1]] == row[check[2]]


def worth_of(way, column, members):
    told = [row[column] for row in members if column and row[column] is not None]
    if way == "count":
        return len(members)
    if way == "sum":
        return sum(told)
    if not told:
        return None
    return sorted(told)[0 if way == "least" else -1]


def step_by_step(order, names):
    """What compares two rows as the order goes."""
    def told(one, other):
        for column, way in order:
            at = names.index(column)
            if compare(one[at], other[at]):
                return compare(one[at], other[at]) * (1 if way == "up" else -1)
        return compare_rows(one, other)
    return told


def sums(question, names, inner):
    told = []
    groups = []
    for row in inner:
        group = tuple(row[names.index(name)] for name in question[1])
        if group not in groups:
            groups.append(group)
    for group in groups:
        members = [dict(zip(names, row)) for row in inner
                   if tuple(row[names.index(name)] for name in question[1]) == group]
        told.append(group + tuple(worth_of(way, column, members) for _, way, column in question[2]))
    return told


def rows(plan, question, store):
    """The rows of the question, or of the piece over the whole store."""
    word = question[0]
    if word == "all":
        return list(store[[name for name, _ in plan].index(question[1])])
    if word == "see":
        at = [name for name, _ in plan].index(question[1])
        return list(seen_rows(plan[at][1], store[at], question[2]))
    inner = rows(plan, question[-1], store)
    names = [name for name, _ in columns(plan, question[-1])]
    if word == "where":
        return [row for row in inner if holds(question[1], dict(zip(names, row)))]
    if word == "pick":
        return [tuple(row[names.index(name)] for name in question[1]) for row in inner]
    if word == "sums":
        return sums(question, names, inner)
    if word == "once":
        return [row for at, row in enumerate(inner) if row not in inner[:at]]
    if word == "first":
        return sorted(inner, key=functools.cmp_to_key(step_by_step(question[2], names)))[:question[1]]
    if word in ("join", "lacking"):
        return two_sided(plan, question, store, inner, names)
    return inner


def two_sided(plan, question, store, right, right_names):
    left = rows(plan, question[3], store)
    c = [name for name, _ in columns(plan, question[3])].index(question[1])
    d = right_names.index(question[2])
    if question[0] == "join":
        return [one + other for one in left for other in right if one[c] is not None and one[c] == other[d]]
    return [one for one in left if one[c] is None or all(one[c] != other[d] for other in right)]


def answer(plan, question, store):
    told = rows(plan, question, store)
    return tuple(told) if question[0] == "first" else bag(told)


def seen_rows(table_columns, table_rows, right):
    if right is None:
        return ()
    check, names = right
    told = []
    for row in table_rows:
        named = dict(zip([name for name, _ in table_columns], row))
        if check is None or holds(check, named):
            told.append(tuple(worth if name in names else None for name, worth in named.items()))
    return bag(told)


def seen(plan, store, rights):
    return tuple(seen_rows(columns_, bag_, right) for (_, columns_), bag_, right in zip(plan, store, rights))


def within(form):
    """What stands just within a question or a piece."""
    return {"all": (), "see": (), "join": form[3:], "lacking": form[3:]}.get(form[0], form[-1:])


def parts(form):
    """All that stands in a question or a piece, itself too, each once, in no order told."""
    told = [form]
    for inner in within(form):
        told += [part for part in parts(inner) if part not in told]
    return told


def under(plan, question, rights):
    """The piece that the question is under these rights."""
    if question[0] == "all":
        return ("see", question[1], dict(zip(dict(plan), rights))[question[1]])
    many = len(within(question))
    return question[:-many] + tuple(under(plan, inner, rights) for inner in question[-many:])


def change(one, other):
    """(gone, come) from the one bag to the other."""
    gone, come = list(one), list(other)
    for row in one:
        if row in come:
            come.remove(row)
            gone.remove(row)
    return (bag(gone), bag(come))
