"""The document's words on houses, letters and scenes, done in the plainest way, to hold the program against.

Each question is answered anew at each moment, over what is seen then, and all answers that ever were are kept.
Nothing here is imported from the program.
"""

from tests import plain, plain_text

NOTHING = ((), ())


class Refused(Exception):
    """name is that of the refusal's class, value what it bears, in a tuple, or ()."""

    def __init__(self, name, *value):
        super().__init__(name)
        self.name, self.value = name, value


def is_name(thing):
    return type(thing) is str and 1 <= len(thing) <= 8 and all(sign in "abcdefghijklmnopqrstuvwxyz" for sign in thing)


def fits(kind, worth):
    if worth is None:
        return True
    if kind == "name":
        return is_name(worth)
    return type(worth) is int and abs(worth) <= 10 ** 9


class Watcher:
    def __init__(self, person, questions):
        self.person, self.questions = person, questions
        # All its unlike answers, from number 0 on: (moment, bags, answers as they stand).
        self.numbers = []
        self.mark = (0, -1)


class House:
    """bad_rights and bad_questions are what is to be refused; all others that are handed in are right."""

    def __init__(self, plan, kept, bad_rights=(), bad_questions=()):
        self.plan, self.kept = plan, kept
        self.bad_rights, self.bad_questions = bad_rights, bad_questions
        self.store = tuple(() for _ in plan)
        self.given = {}
        self.past = {0: (self.store, ())}
        self.moment = self.begun = self.many = self.total = 0
        self.watchers = {}
        self.worked = {}
        self.came_to = -1
        self.rows = []

    def dealt(self, dealing):
        """The store behind the dealing."""
        if type(dealing) is not tuple:
            raise Refused("NoDeal", None)
        tables = {name: {row[0]: row for row in rows} for (name, _), rows in zip(self.plan, self.store)}
        for at, (word, table, thing) in enumerate(dealing):
            columns = dict(self.plan).get(table, ())
            if word == "put" and len(columns) == len(thing) and thing[0] is not None \
                    and all(fits(kind, worth) for (_, kind), worth in zip(columns, thing)):
                tables[table][thing[0]] = thing
            elif word == "drop" and table in tables and thing in tables[table]:
                del tables[table][thing]
            else:
                raise Refused("NoDeal", at)
        return tuple(plain.bag(tables[name].values()) for name, _ in self.plan)

    def check(self, entry):
        """Refuses what is to be refused."""
        word = entry[0]
        if word == "deal":
            self.dealt(entry[1])
        elif word in ("right", "watch") and not is_name(entry[1]):
            raise Refused("NoPerson", entry[1])
        elif word == "right" and (entry[2] not in dict(self.plan) or entry[3] in self.bad_rights):
            raise Refused("NoRight")
        elif word == "watch" and (type(entry[2]) is not tuple or not 1 <= len(entry[2]) <= 3
                                  or any(self.is_bad(question) for question in entry[2])):
            raise Refused("NoQuestion")
        elif word == "end":
            self.found(entry[1])

    def is_bad(self, question):
        return type(question) is not tuple or question in self.bad_questions

    def do(self, entry):
        self.check(entry)
        told = getattr(self, "do_" + entry[0])(*entry[1:])
        self.rows.append(plain_text.entry(entry))
        return told

    def do_deal(self, dealing):
        ahead, self.store = self.store, self.dealt(dealing)
        into = [part for part in self.kept_pieces() if self.comes_in(part, ahead)]
        for part in into:
            self.worked[plain_text.question(part)] += 1
        self.total += len(into)
        return self.pass_on()

    def do_right(self, person, table, right):
        rights = list(self.rights(person))
        rights[[name for name, _ in self.plan].index(table)] = right
        self.given[person] = tuple(rights)
        self.settle()
        return self.pass_on()

    def do_watch(self, person, questions):
        w = self.many
        self.many += 1
        self.watchers[w] = Watcher(person, questions)
        self.answer(self.watchers[w])
        self.settle()
        return w

    def do_end(self, w):
        del self.watchers[w]
        self.settle()

    def pass_on(self):
        self.moment += 1
        for watcher in self.watchers.values():
            self.answer(watcher)
        self.past[self.moment] = (self.store, self.persons())
        return self.moment

    def answer(self, watcher):
        seen = plain.seen(self.plan, self.store, self.rights(watcher.person))
        standing = tuple(plain.answer(self.plan, question, seen) for question in watcher.questions)
        bags = tuple(plain.bag(rows) for rows in standing)
        if not watcher.numbers or watcher.numbers[-1][1] != bags:
            watcher.numbers.append((self.moment, bags, standing))

    def rights(self, person):
        return self.given.get(person, (None,) * len(self.plan))

    def persons(self):
        return tuple((person, rights) for person, rights in sorted(self.given.items())
                     if any(right is not None for right in rights))

    def kept_pieces(self):
        told = []
        for watcher in self.watchers.values():
            for question in watcher.questions:
                piece = plain.under(self.plan, question, self.rights(watcher.person))
                told += [part for part in plain.parts(piece) if part not in told]
        return told

    def comes_in(self, part, ahead):
        if part[0] == "see":
            at = [name for name, _ in self.plan].index(part[1])
            return self.store[at] != ahead[at]
        return any(self.bag(inner, ahead) != self.bag(inner, self.store) for inner in plain.within(part))

    def bag(self, piece, store):
        return plain.bag(plain.rows(self.plan, piece, store))

    def settle(self):
        """Pieces that come are worked nothing so far, those that go are forgotten."""
        texts = [plain_text.question(part) for part in self.kept_pieces()]
        self.worked = {text: self.worked.get(text, 0) for text in texts}

    def works(self):
        parts = {plain_text.question(part): part for part in self.kept_pieces()}
        return tuple((parts[text], self.worked[text]) for text in sorted(parts))

    def found(self, w):
        if type(w) is not int or w not in self.watchers:
            raise Refused("NoWatcher", w)
        return self.watchers[w]

    def told_watchers(self):
        return tuple((w, watcher.person, watcher.questions) for w, watcher in sorted(self.watchers.items()))

    def oldest(self, w):
        return max(0, len(self.watchers[w].numbers) - 1 - self.kept)

    def line(self, w):
        numbers = self.found(w).numbers
        moments = [(number, numbers[number][0]) for number in range(self.oldest(w), len(numbers))]
        return (len(numbers) - 1, numbers[-1][1], tuple(moments))

    def letter(self, w, mark):
        """What w would be sent, if this mark had been heard."""
        life, k = mark
        numbers = self.found(w).numbers
        newest = len(numbers) - 1
        whole = ("whole", w, life, newest, numbers[-1][1])
        if k == newest:
            return None
        if not self.oldest(w) <= k < newest:
            return whole
        changes = tuple(plain.change(one, other) for one, other in zip(numbers[k][1], numbers[-1][1]))
        if sum(len(gone + come) for gone, come in changes) > sum(map(len, numbers[-1][1])):
            return whole
        return ("change", w, life, k, newest, changes)

    def beat(self, w):
        return self.letter(w, self.found(w).mark)

    def heard(self, letter):
        _, w, life, k = letter
        if w not in self.watchers or (life, k) <= self.watchers[w].mark or k >= len(self.watchers[w].numbers):
            return False
        self.watchers[w].mark = (life, k)
        return True

    def turn(self, load):
        rising = sorted(self.watchers)
        rising = [w for w in rising if w > self.came_to] + [w for w in rising if w <= self.came_to]
        for w in rising[:load]:
            self.came_to = w
        return tuple((w, self.beat(w)) for w in rising[:load])

    def paper(self, letter):
        """The paper of a letter that the house has sent some time, and sends still; else None."""
        w = letter[1]
        k = letter[3] if letter[0] == "change" else -1
        if w not in self.watchers or self.letter(w, (letter[2], k)) != letter:
            return None
        numbers = self.watchers[w].numbers
        return tuple(moment for moment, _, _ in numbers[k + 1 if letter[0] == "change" else -1:])

    def text(self):
        return "".join(row + "\n" for row in self.rows)

    def fold(self):
        self.rows = [f"picture {self.moment} {self.many}"]
        for (table, _), rows in zip(self.plan, self.store):
            self.rows += [" ".join(["row", table, *map(plain_text.worth, row)]) for row in rows]
        for person, rights in self.persons():
            self.rows += [f"may {person} {table} {plain_text.right(right)}"
                          for (table, _), right in zip(self.plan, rights) if right is not None]
        for w, watcher in sorted(self.watchers.items()):
            oldest = self.oldest(w)
            questions = plain_text.counted([plain_text.question(question) for question in watcher.questions])
            self.rows.append(f"line {w} {watcher.person} {oldest} {watcher.numbers[oldest][0]} {questions}")
            for (_, bags, _), (moment, others, _) in zip(watcher.numbers[oldest:], watcher.numbers[oldest + 1:]):
                changes = plain_text.changes(plain.change(one, other) for one, other in zip(bags, others))
                self.rows.append(f"kept {w} {moment} {changes}")
        self.rows.append("entries")
        self.begun = self.moment

    def fall(self):
        for watcher in self.watchers.values():
            watcher.mark = (0, -1)
        self.came_to = -1


class Glass:
    def __init__(self):
        self.life, self.k, self.bags = 0, -1, None

    def hear(self, letter):
        if letter[2] != self.life:
            return False
        if letter[0] == "whole":
            taken, bags, m = letter[3] > self.k, letter[4], letter[3]
        else:
            taken, bags, m = letter[3] == self.k, None, letter[4]
        if not taken:
            return False
        if bags is None:
            bags = tuple(plain.bag(less(bag, gone) + list(come)) for bag, (gone, come) in zip(self.bags, letter[5]))
        self.bags, self.k = bags, m
        return True

    def cut(self):
        self.life, self.k, self.bags = self.life + 1, -1, None


def less(bag, gone):
    rows = list(bag)
    for row in gone:
        rows.remove(row)
    return rows


class Scene:
    """A house, glasses, roads; what its steps tell, or refuse, of entries that are right by their forms."""

    def __init__(self, plan, kept=8, room=4, **bad):
        self.house, self.room = House(plan, kept, **bad), room
        self.glasses, self.roads, self.backs = {}, {}, {}

    def step(self, entry):
        word, *things = entry
        if word in ("deal", "right", "watch", "end"):
            return self.written(entry)
        if word in ("turn", "torn", "fold", "fall"):
            return getattr(self, word)(*things)
        self.house.found(things[0])
        return getattr(self, word)(*things)

    def written(self, entry):
        told = self.house.do(entry)
        if entry[0] == "watch":
            self.glasses[told], self.roads[told], self.backs[told] = Glass(), [], []
        if entry[0] == "end":
            for held in (self.glasses, self.roads, self.backs):
                del held[entry[1]]
            return True
        return told

    def put(self, road, letter):
        if len(road) < self.room:
            road.append(letter)
            return True
        return False

    def send(self, w, letter):
        return letter if letter is None or self.put(self.roads[w], letter) else "full"

    def beat(self, w):
        return self.send(w, self.house.beat(w))

    def turn(self, load):
        return tuple((w, self.send(w, letter)) for w, letter in self.house.turn(load))

    def place(self, road, i):
        if type(i) is not int or not 0 <= i < len(road):
            raise Refused("NoLetter", i)

    def bring(self, w, i):
        self.place(self.roads[w], i)
        return self.glasses[w].hear(self.roads[w].pop(i))

    def lose(self, w, i):
        self.place(self.roads[w], i)
        del self.roads[w][i]
        return True

    def double(self, w, i):
        self.place(self.roads[w], i)
        if not self.put(self.roads[w], self.roads[w][i]):
            raise Refused("Full")
        return True

    def say(self, w):
        return self.put(self.backs[w], ("have", w, self.glasses[w].life, self.glasses[w].k))

    def carry(self, w, i):
        self.place(self.backs[w], i)
        return self.house.heard(self.backs[w].pop(i))

    def drop(self, w, i):
        self.place(self.backs[w], i)
        del self.backs[w][i]
        return True

    def cut(self, w):
        self.glasses[w].cut()
        return True

    def off(self, w):
        self.roads[w], self.backs[w] = [], []
        return True

    def fold(self):
        self.house.fold()
        return True

    def fall(self):
        self.house.fall()
        return True

    def torn(self, entry, many):
        self.house.check(entry)
        if many > len(plain_text.entry(entry)) + 1:
            raise Refused("NoEntry")
        return self.fall()
