"""Pictures: what a house is at a moment, and how that is written and read."""

from standviews.errors import NoText
from standviews.plans import is_row
from standviews.questions import is_question
from standviews.reading import take_questions, take_right, take_row
from standviews.rights import is_right
from standviews.showing import show_bag, show_question, show_right, show_table_row
from standviews.words import Words

LAST = "entries"


class Picture:
    """A house at a moment, but for its text, what it has heard, whose turn it is, and its works."""

    def __init__(self, when, many):
        self.when = when
        # How many watchers there were so far.
        self.many = many
        # Each (table, row).
        self.puts = []
        # Each (person, table, right), none of them none.
        self.given = []
        # A PicturedLine for each that watches, rising.
        self.lines = []


class PicturedLine:
    """The line of the watcher w, from the oldest number that is kept, which began then."""

    def __init__(self, w, person, questions, oldest, when):
        self.w = w
        self.person = person
        self.questions = questions
        self.oldest = oldest
        self.when = when
        # What led on from there, each (moment, changes), the eldest ahead.
        self.steps = []


def step_row(w, moment, changes):
    """The row of a text that tells a step of the line of w."""
    bags = [show_bag(bag) for change in changes for bag in change]
    return " ".join(["kept", str(w), str(moment), *bags])


def line_rows(line):
    """The rows of a text that tell the line."""
    ahead = f"line {line.w} {line.person} {line.oldest} {line.when} {len(line.questions)}"
    told = [" ".join([ahead, *[show_question(question) for question in line.questions]])]
    return told + [step_row(line.w, moment, changes) for moment, changes in line.steps]


def picture_rows(picture):
    """The rows of a text that tell the picture."""
    told = [f"picture {picture.when} {picture.many}"]
    told.extend([f"row {show_table_row(table, row)}" for table, row in picture.puts])
    told.extend([f"may {person} {table} {show_right(right)}" for person, table, right in picture.given])
    for line in picture.lines:
        told.extend(line_rows(line))
    return told + [LAST]


# Each function below takes what stands in a row of a picture, behind its word,
# into the picture; NoText(0) of what isn't so written, or right for the plan.


def take_put(plan, picture, words):
    """A row of a table."""
    table, row = take_row(plan, words)
    if not is_row(plan, table, row):
        raise NoText(0)
    picture.puts.append((table, row))


def take_may(plan, picture, words):
    """A person's right of a table."""
    person = words.take_name()
    table = words.take_name()
    right = take_right(words)
    if not is_right(plan, table, right):
        raise NoText(0)
    picture.given.append((person, table, right))


def take_line(plan, picture, words):
    """A watcher's line, but for its steps."""
    w = words.take_count()
    person = words.take_name()
    oldest = words.take_count()
    when = words.take_count()
    questions = take_questions(words)
    if not all([is_question(plan, question) for question in questions]):
        raise NoText(0)
    picture.lines.append(PicturedLine(w, person, questions, oldest, when))


def take_kept(plan, picture, words):
    """A step of the last line."""
    if not picture.lines or words.take_count() != picture.lines[-1].w:
        raise NoText(0)
    line = picture.lines[-1]
    when = words.take_count()
    line.steps.append((when, tuple([(words.take_bag(), words.take_bag()) for _ in line.questions])))


ROWS = {"row": take_put, "may": take_may, "line": take_line, "kept": take_kept}


def take_picture_row(plan, picture, text):
    """Takes what the row tells into the picture."""
    words = Words(text)
    take = ROWS[words.take_one_of(list(ROWS))]
    take(plan, picture, words)
    words.finish()


def begins_with_picture(rows):
    """Whether these rows of a text begin with a picture."""
    return len(rows) > 0 and rows[0].startswith("picture ")


def begun_picture(text):
    """The picture that begins with this row, with nothing else in it."""
    words = Words(text)
    words.take()
    picture = Picture(words.take_count(), words.take_count())
    words.finish()
    return picture


def read_picture(plan, rows):
    """The picture that these rows begin with, and how many of them are its; NoText at the first that is refused."""
    picture = begun_picture(rows[0])
    if LAST not in rows:
        raise NoText(len(rows))
    end = rows.index(LAST)
    for at in range(1, end):
        try:
            take_picture_row(plan, picture, rows[at])
        except NoText:
            raise NoText(at) from None
    return (picture, end + 1)
