"""Plans, stores, rights, questions and dealings made by chance, from a seed: the same ones at each run."""

from tests import plain

PLAN = (
    ("aa", (("k", "number"), ("s", "name"), ("n", "number"))),
    ("bb", (("id", "name"), ("m", "number"), ("t", "name"))),
    ("cc", (("key", "number"), ("other", "number"))),
)
NUMBERS = (None, -2, 0, 1, 2, 3)
NAMES = (None, "a", "b", "ab", "z")
WORDS = ("where", "pick", "called", "join", "sums", "once", "lacking", "first")


def worth(chance, kind):
    return chance.choice(NUMBERS if kind == "number" else NAMES)


def row(chance, columns):
    told = [worth(chance, kind) for _, kind in columns]
    while told[0] is None:
        told[0] = worth(chance, columns[0][1])
    return tuple(told)


def store(chance, many=5):
    return tuple(plain.bag({told[0]: told for told in [row(chance, columns) for _ in range(many)]}.values())
                 for _, columns in PLAN)


def moved(chance, held):
    """The store with some rows put and some dropped."""
    told = []
    for (_, columns), rows in zip(PLAN, held):
        keyed = {each[0]: each for each in rows}
        for _ in range(chance.choice((0, 0, 1, 2))):
            each = row(chance, columns)
            keyed[each[0]] = each
        for key in list(keyed):
            if not chance.randrange(8):
                del keyed[key]
        told.append(plain.bag(keyed.values()))
    return tuple(told)


def check(chance, columns, deep=2):
    word = chance.choice(("is", "is", "below", "like", "not", "and", "or"))
    if deep and word in ("not", "and", "or"):
        return (word,) + tuple(check(chance, columns, deep - 1) for _ in range(1 if word == "not" else 2))
    name, kind = chance.choice(columns)
    if word == "below" and kind == "number":
        return ("below", name, chance.choice(NUMBERS[1:]))
    if word == "like":
        return ("like", name, chance.choice([other for other, kind_ in columns if kind_ == kind]))
    return ("is", name, worth(chance, kind))


def right(chance, columns):
    if not chance.randrange(8):
        return None
    names = tuple(name for name, _ in columns if chance.randrange(5))
    return (chance.choice((None, check(chance, columns))), names)


def rights(chance):
    return tuple(right(chance, columns) for _, columns in PLAN)


def some(chance, columns, least):
    """Some of the columns' names, unlike, in any order."""
    names = [name for name, _ in columns]
    chance.shuffle(names)
    return tuple(names[:chance.randrange(least, len(names) + 1)])


def new_names(chance, many, barred=()):
    letters = [a + b for a in "pqrs" for b in "abcdefghijklmnopqrstuvwxyz" if a + b not in barred]
    return tuple(chance.sample(letters, many))


def sums(chance, columns):
    names = some(chance, columns, 0)[:2]
    made = []
    for name in new_names(chance, chance.randrange(1, 4), [name for name, _ in columns]):
        column, kind = chance.choice(columns)
        way = chance.choice(("count", "sum", "least", "most"))
        if way == "sum" and kind != "number":
            way = "count"
        made.append((name, way, None if way == "count" else column))
    return names, tuple(made)


def order(chance, columns):
    return tuple((name, chance.choice(("up", "down"))) for name in some(chance, columns, 0)[:2])


def question(chance, forms, word=None):
    """A question of at most so many forms, the outmost one of this word, where one is told."""
    if forms < 2:
        return ("all", chance.choice(PLAN)[0])
    word = word or chance.choice(WORDS)
    if word in ("join", "lacking"):
        return two_sided(chance, forms, word)
    inner = question(chance, chance.randrange(1, forms))
    columns = plain.columns(PLAN, inner)
    if word == "where":
        return ("where", check(chance, columns), inner)
    if word == "pick":
        return ("pick", some(chance, columns, 1), inner)
    if word == "called":
        return ("called", chance.choice((some(chance, columns, len(columns)),
                                         new_names(chance, len(columns)))), inner)
    if word == "sums":
        return ("sums", *sums(chance, columns), inner)
    if word == "once":
        return ("once", inner)
    return ("first", chance.choice((1, 2, 3, 10 ** 9)), order(chance, columns), inner)


def two_sided(chance, forms, word):
    """A join or a lacking; where the sides' columns don't go together, a side is called anew or another one taken."""
    left = question(chance, max(1, forms // 2 - 1))
    right_ = question(chance, max(1, forms // 2 - 1))
    left_columns, right_columns = plain.columns(PLAN, left), plain.columns(PLAN, right_)
    if word == "join" and ({name for name, _ in left_columns} & {name for name, _ in right_columns}):
        right_ = ("called", new_names(chance, len(right_columns), [name for name, _ in left_columns]), right_)
        right_columns = plain.columns(PLAN, right_)
    pairs = [(c, d) for c, kind in left_columns for d, other in right_columns if kind == other]
    if not pairs or len(left_columns + right_columns) > 9:
        return ("once", ("all", chance.choice(PLAN)[0]))
    return (word, *chance.choice(pairs), left, right_)


def of_each_word(chance, many, forms=6):
    """So many questions of each word, that one outmost; of all only those of the tables."""
    told = [("all", name) for name, _ in PLAN]
    for word in WORDS:
        made = []
        while len(made) < many:
            each = question(chance, chance.randrange(2, forms + 1), word)
            if each[0] == word:
                made.append(each)
        told += made
    return told
