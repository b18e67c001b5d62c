"""The document's words on how things are written, done in the plainest way, to hold the program against.

Nothing here is imported from the program.
"""


def worth(told):
    return "~" if told is None else str(told)


def bag(rows):
    return ";".join(",".join(worth(each) for each in row) for row in rows) or "-"


def bags(told):
    return " ".join(bag(rows) for rows in told)


def changes(told):
    return " ".join(f"{bag(gone)} {bag(come)}" for gone, come in told)


def counted(names):
    return " ".join([str(len(names)), *names])


def check(told):
    word, *things = told
    if word in ("not", "and", "or"):
        return " ".join([word] + [check(part) for part in things])
    return f"{word} {things[0]} {worth(things[1])}"


def right(told):
    if told is None:
        return "none"
    if told[0] is None:
        return "all " + counted(told[1])
    return f"rows {check(told[0])} {counted(told[1])}"


def question(told):
    word = told[0]
    if word == "all":
        return f"all {told[1]}"
    if word == "see":
        return f"see {told[1]} {right(told[2])}"
    if word == "where":
        return f"where {check(told[1])} {question(told[2])}"
    if word in ("pick", "called"):
        return f"{word} {counted(told[1])} {question(told[2])}"
    if word in ("join", "lacking"):
        return f"{word} {told[1]} {told[2]} {question(told[3])} {question(told[4])}"
    if word == "sums":
        sums = [f"{name} {way}" + (f" {column}" if column else "") for name, way, column in told[2]]
        return f"sums {counted(told[1])} {counted(sums)} {question(told[3])}"
    if word == "first":
        return f"first {told[1]} {counted([f'{column} {way}' for column, way in told[2]])} {question(told[3])}"
    return f"once {question(told[1])}"


def entry(told):
    word = told[0]
    if word == "deal":
        parts = [f"{way} {table} " + (" ".join(map(worth, thing)) if way == "put" else worth(thing))
                 for way, table, thing in told[1]]
        return " ".join(["deal", *parts])
    if word == "right":
        return f"right {told[1]} {told[2]} {right(told[3])}"
    if word == "watch":
        return f"watch {told[1]} {counted([question(each) for each in told[2]])}"
    return f"end {told[1]}"


def letter(told):
    """As the desk answers it."""
    if told[0] == "whole":
        return f"whole {told[2]} {told[3]} {bags(told[4])}"
    return f"change {told[2]} {told[3]} {told[4]} {changes(told[5])}"
