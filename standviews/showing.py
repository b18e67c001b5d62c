"""How worths, bags, questions, pieces, rights and entries are written."""

from standviews.forms import just_within


def show_worth(worth):
    """The worth, written."""
    if worth is None:
        return "~"
    return str(worth)


def show_row(row):
    """A bag's row, written."""
    return ",".join([show_worth(worth) for worth in row])


def show_bag(bag):
    """The bag, written."""
    if not bag:
        return "-"
    return ";".join([show_row(row) for row in bag])


def show_names(names):
    """How many names there are, and they, written."""
    return " ".join([str(len(names)), *names])


def show_check(check):
    """The check, written."""
    word = check[0]
    if word in ("not", "and", "or"):
        return " ".join([word, *[show_check(part) for part in check[1:]]])
    return " ".join([word, check[1], show_worth(check[2])])


def show_right(right):
    """The right, written."""
    if right is None:
        return "none"
    check, names = right
    if check is None:
        return f"all {show_names(names)}"
    return f"rows {show_check(check)} {show_names(names)}"


def show_sum(told):
    """The sum of a sums, written."""
    name, word, column = told
    if column is None:
        return f"{name} {word}"
    return f"{name} {word} {column}"


def form_words(form):
    """What a question's, or piece's, form has ahead of what stands just within it, written, in its parts."""
    word = form[0]
    if word == "where":
        return [word, show_check(form[1])]
    if word in ("pick", "called"):
        return [word, show_names(form[1])]
    if word == "sums":
        return [word, show_names(form[1]), str(len(form[2])), *[show_sum(told) for told in form[2]]]
    if word == "first":
        return [word, str(form[1]), str(len(form[2])), *[f"{column} {way}" for column, way in form[2]]]
    if word == "see":
        return [word, form[1], show_right(form[2])]
    # Of the others only names stand there.
    return list(form[:len(form) - len(just_within(form))])


def show_question(question):
    """The question, or piece, written."""
    return " ".join(form_words(question) + [show_question(inner) for inner in just_within(question)])


def show_table_row(table, row):
    """The table and a row of it, written."""
    return " ".join([table, *[show_worth(worth) for worth in row]])


def show_change(change):
    """A dealing's change, written."""
    word, table, thing = change
    if word == "put":
        return f"{word} {show_table_row(table, thing)}"
    return " ".join([word, table, show_worth(thing)])


def show_entry(entry):
    """The entry, as its row is written."""
    word = entry[0]
    if word == "deal":
        return " ".join([word, *[show_change(change) for change in entry[1]]])
    if word == "right":
        _, person, table, right = entry
        return " ".join([word, person, table, show_right(right)])
    if word == "watch":
        _, person, questions = entry
        return " ".join([word, person, str(len(questions)), *[show_question(question) for question in questions]])
    return " ".join([word, str(entry[1])])
