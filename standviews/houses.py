"""The house: its tables, the rights of persons, who watches, and what it has written of all that."""

from standviews.bags import between
from standviews.errors import NoMoment, NoPerson, NoPlan, NoQuestion, NoRight, NoWatcher
from standviews.letters import UNMARKED, is_have, letter_for
from standviews.lines import KEPT, Line, line_up_to
from standviews.parts import under
from standviews.pictures import Picture, PicturedLine, picture_rows
from standviews.pieces import Pieces
from standviews.plans import is_plan, place_of
from standviews.questions import is_question
from standviews.rights import is_right
from standviews.showing import show_entry
from standviews.stores import dealt, empty
from standviews.worths import is_name, is_whole

MOST_QUESTIONS = 3


def are_questions(plan, thing):
    """Whether this is what a watcher may ask."""
    if type(thing) is not tuple or not 1 <= len(thing) <= MOST_QUESTIONS:
        return False
    return all([is_question(plan, question) for question in thing])


def check_person(thing):
    """Refuses what is no name."""
    if not is_name(thing):
        raise NoPerson(thing)


class Watcher:
    """One that watches: its person, questions and line, the pieces that answer it now, and the mark heard of it."""

    def __init__(self, person, questions, pieces, answers):
        self.person = person
        self.questions = questions
        self.pieces = pieces
        self.answers = answers
        self.has = UNMARKED


class House:
    """A house of the tables of a plan."""

    def __init__(self, plan, *, kept=KEPT):
        if not is_plan(plan):
            raise NoPlan()
        self._plan = plan
        self._most = kept
        self._moment = 0
        self._store = empty(plan)
        self._rights = {}
        self._pieces = Pieces(plan, self._store)
        # By their numbers, which only rise: so they stand in order.
        self._watching = {}
        self._many = 0
        # The last one that a turn came to.
        self._came_to = -1
        self._begin([])

    def deal(self, dealing):
        """Does the dealing; the moment behind it."""
        self._store = dealt(self._plan, self._store, dealing)
        self._pieces.move(self._store)
        self._moment += 1
        for watcher in self._watching.values():
            watcher.answers.put(tuple([self._pieces.last(piece) for piece in watcher.pieces]), self._moment)
        self._write(("deal", dealing))
        return self._pass_on()

    def right(self, person, table, right):
        """This is the person's right of the table now; the moment behind it."""
        check_person(person)
        if not is_right(self._plan, table, right):
            raise NoRight()
        self._give(person, table, right)
        self._moment += 1
        self._renew([watcher for watcher in self._watching.values() if watcher.person == person])
        self._write(("right", person, table, right))
        return self._pass_on()

    def watch(self, person, questions):
        """A watcher more; its number."""
        check_person(person)
        if not are_questions(self._plan, questions):
            raise NoQuestion()
        w = self._many
        self._many += 1
        pieces = self._need(person, questions)
        self._watching[w] = Watcher(person, questions, pieces,
                                    Line(self._bags_of(pieces), self._moment, kept=self._most))
        self._write(("watch", person, questions))
        return w

    def end(self, w):
        """It watches no more."""
        self._leave(self._found(w).pieces)
        del self._watching[w]
        self._write(("end", w))

    def moment(self):
        """The moment that is now."""
        return self._moment

    def store(self):
        """The store as it is now."""
        return self._store

    def rights(self, person):
        """The person's rights, for each table in order."""
        check_person(person)
        return self._rights.get(person, tuple([None for _ in self._plan]))

    def watchers(self):
        """(w, person, questions) of each that watches, rising."""
        return tuple([(w, watcher.person, watcher.questions) for w, watcher in self._watching.items()])

    def line(self, w):
        """Of the line of w: (number, bags, moments)."""
        answers = self._found(w).answers
        return (answers.number(), answers.bags(), answers.moments())

    def works(self):
        """Of each piece, by text rising: (piece, how often it was worked since it is kept)."""
        return self._pieces.works()

    def total(self):
        """How often any piece was worked so far."""
        return self._pieces.total()

    def mark(self, w):
        """The mark that was heard of w."""
        return self._found(w).has

    def beat(self, w):
        """The letter that w wants, by what was heard of it; None where that is the newest."""
        return self.letter_by(w, self.mark(w))

    def letter_by(self, w, mark):
        """The letter that w would want, if this was heard of it."""
        return letter_for(w, mark, self._found(w).answers)

    def heard(self, letter):
        """Hears the letter; whether it tells anything new."""
        if not is_have(letter) or letter[1] not in self._watching:
            return False
        _, w, life, k = letter
        watcher = self._watching[w]
        if k > watcher.answers.number() or (life, k) <= watcher.has:
            return False
        watcher.has = (life, k)
        return True

    def turn(self, load):
        """(w, the letter that it wants, or None) of the next so many, or of all."""
        above = [w for w in self._watching if w > self._came_to]
        others = [w for w in self._watching if w <= self._came_to]
        told = (above + others)[:load]
        if told:
            self._came_to = told[-1]
        return tuple([(w, self.beat(w)) for w in told])

    def written(self):
        """Its text: what was done, or a picture and what was done behind it."""
        return "".join([row + "\n" for row in self._rows])

    def fold(self):
        """Its text is a picture of it from now on."""
        self._begin(picture_rows(self._picture()))

    def begun(self):
        """The moment at which its text begins."""
        return self._begun

    def stand_as(self, picture):
        """What has done nothing yet stands as the picture tells."""
        self._moment = picture.when
        self._many = picture.many
        self._store = dealt(self._plan, self._store, tuple([("put", table, row) for table, row in picture.puts]))
        self._pieces.move(self._store)
        for person, table, right in picture.given:
            self._give(person, table, right)
        for line in picture.lines:
            pieces = self._need(line.person, line.questions)
            answers = line_up_to(self._bags_of(pieces), line.steps, line.oldest, line.when, self._most)
            self._watching[line.w] = Watcher(line.person, line.questions, pieces, answers)
        self._begin(picture_rows(picture))

    def past(self, moment):
        """(store, rights) at the moment, rights (person, rights) of all that have one, rising."""
        if not is_whole(moment) or not self._begun <= moment <= self._moment:
            raise NoMoment()
        return self._pasts[moment - self._begun]

    def _begin(self, rows):
        """Its text begins now, with these rows."""
        self._rows = rows
        self._begun = self._moment
        self._pasts = [self._now()]

    def _now(self):
        """What past tells of this moment."""
        return (self._store, self._persons())

    def _persons(self):
        """(person, rights) of all that have one that isn't None, rising."""
        nothing = tuple([None for _ in self._plan])
        return tuple([(person, self._rights[person]) for person in sorted(self._rights)
                      if self._rights[person] != nothing])

    def _write(self, entry):
        """The entry, which is done, is the last row of its text."""
        self._rows.append(show_entry(entry))

    def _pass_on(self):
        """Keeps what is now, at a new moment, and tells that."""
        self._pasts.append(self._now())
        return self._moment

    def _found(self, w):
        """The watcher of this number; refused where none is."""
        if not is_whole(w) or w not in self._watching:
            raise NoWatcher(w)
        return self._watching[w]

    def _give(self, person, table, right):
        """This is the person's right of the table."""
        place = place_of(self._plan, table)
        rights = self.rights(person)
        self._rights[person] = rights[:place] + (right,) + rights[place + 1:]

    def _need(self, person, questions):
        """The pieces of the person's questions, each needed once more."""
        rights = self.rights(person)
        pieces = tuple([under(self._plan, question, rights) for question in questions])
        for piece in pieces:
            self._pieces.need(piece)
        return pieces

    def _leave(self, pieces):
        """Each of these is needed once less."""
        for piece in pieces:
            self._pieces.leave(piece)

    def _bags_of(self, pieces):
        """The bags of these pieces."""
        return tuple([self._pieces.bag(piece) for piece in pieces])

    def _renew(self, watchers):
        """The rights of these have changed: other pieces answer them from now on."""
        elder = [watcher.pieces for watcher in watchers]
        for watcher in watchers:
            watcher.pieces = self._need(watcher.person, watcher.questions)
        # Only when all new ones are needed: a piece that stays keeps how often it was worked.
        for watcher, pieces in zip(watchers, elder):
            changes = [between(bag, other) for bag, other in zip(self._bags_of(pieces), self._bags_of(watcher.pieces))]
            watcher.answers.put(tuple(changes), self._moment)
        for pieces in elder:
            self._leave(pieces)

    def _picture(self):
        """The picture of it as it is now."""
        picture = Picture(self._moment, self._many)
        for (table, _), rows in zip(self._plan, self._store):
            picture.puts.extend([(table, row) for row in rows])
        for person, rights in self._persons():
            picture.given.extend([(person, table, right) for (table, _), right in zip(self._plan, rights)
                                  if right is not None])
        for w, watcher in self._watching.items():
            oldest, when = watcher.answers.moments()[0]
            line = PicturedLine(w, watcher.person, watcher.questions, oldest, when)
            line.steps = list(watcher.answers.kept_steps())
            picture.lines.append(line)
        return picture
