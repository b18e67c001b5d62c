"""Scripts of scenes drawn by chance, from a seed: each entry by what the plain scene is then."""

from tests import making, plain_text

PERSONS = ("ann", "bo", "cy")
# What is to be refused, whatever stands.
BAD_RIGHTS = (5, (), (None, ("zz",)), (None, ["k"]), (("is", "zz", 1), ()), "none")
BAD_QUESTIONS = (None, ("all", "zz"), ("once", ("see", "aa", None)), ["all", "aa"], ("first", 0, (), ("all", "aa")))
OFTEN = {"deal": 24, "right": 4, "watch": 2, "end": 1, "beat": 16, "turn": 6, "bring": 20, "lose": 3, "double": 4,
         "say": 14, "carry": 14, "drop": 2, "cut": 2, "off": 1, "fold": 2, "fall": 2, "torn": 2}


# Rights by which all is seen.
EVERYTHING = tuple((None, tuple(name for name, _ in columns)) for _, columns in making.PLAN)


class Script:
    """Draws entries for a scene of this chance's own questions, rights and persons."""

    def __init__(self, chance, model, words=tuple(OFTEN), most=4):
        self.chance, self.model, self.words, self.most = chance, model, words, most
        self.asked = [("all", chance.choice(making.PLAN)[0])] + [making.question(chance, many) for many in (2, 3, 6, 6)]
        self.given = [EVERYTHING, EVERYTHING, making.rights(chance), making.rights(chance)]
        # Begun so that most scripts have something to see, and somebody who does.
        self.opening = [("right", person, table, self.chance.choice(self.given)[at])
                        for person in PERSONS[:2] for at, (table, _) in enumerate(making.PLAN)]
        puts = [("put", table, making.row(chance, columns)) for table, columns in making.PLAN for _ in range(4)]
        self.opening += [("deal", tuple(puts)), self.watch(), self.watch()]
        if chance.randrange(2):
            self.opening.reverse()
        # What one that watches and the house are about to do, so that most that is sent is heard some time.
        self.talk = []

    def talk_on(self):
        word, w = self.talk.pop(0)
        roads = {"bring": self.model.roads, "carry": self.model.backs}.get(word)
        return (word, w) if roads is None else (word, w, len(roads.get(w, [0])) - 1)

    def entry(self, words=None):
        if words is None and self.opening and self.chance.randrange(4):
            return self.opening.pop(0)
        if words is None and self.talk and self.chance.randrange(2):
            return self.talk_on()
        words = words or self.words
        word = self.chance.choices(words, [OFTEN[each] for each in words])[0]
        if word == "watch" and len(self.model.glasses) >= self.most:
            word = "deal"
        if self.chance.randrange(12) == 0:
            return self.refused(word)
        return getattr(self, word)()

    def refused(self, word):
        """An entry that is, most often, refused; by its form it is right."""
        chance = self.chance
        if word == "deal":
            return (word, self.deal()[1] + chance.choice(((("drop", "aa", 99),), (("put", "bb", ("a", "a", "a")),),
                                                          (("put", "zz", (1,)),), (("put", "aa", (None, "a", 1)),))))
        if word == "right":
            return chance.choice(((word, "Ann", "zz", None), (word, "ann", "zz", None),
                                  (word, "ann", "aa", chance.choice(BAD_RIGHTS))))
        if word == "watch":
            bad = chance.choice(BAD_QUESTIONS)
            return chance.choice(((word, 5, ()), (word, "ann", ()), (word, "bo", (self.asked[0], bad)),
                                  (word, "bo", bad)))
        if word in ("bring", "lose", "double", "carry", "drop"):
            return (word, chance.choice((self.one(), 99, -1, True)), chance.choice((99, -1, None, "0")))
        if word in ("end", "beat", "say", "cut", "off"):
            return (word, chance.choice((99, -1, None, True, (0,))))
        if word == "torn":
            return (word, self.refused(chance.choice(("deal", "right", "watch", "end"))), chance.choice((1, 10 ** 9)))
        return getattr(self, word)()

    def deal(self):
        chance, changes = self.chance, []
        for (table, _), rows in zip(making.PLAN, self.model.house.store):
            changes += [("drop", table, row[0]) for row in rows if not chance.randrange(12)]
        for _ in range(chance.choice((0, 1, 1, 1, 2))):
            table, columns = chance.choice(making.PLAN)
            changes.append(("put", table, making.row(chance, columns)))
        return ("deal", tuple(changes))

    def right(self):
        at = self.chance.randrange(len(making.PLAN))
        return ("right", self.chance.choice(PERSONS[:2]), making.PLAN[at][0], self.chance.choice(self.given)[at])

    def watch(self):
        questions = self.chance.choices(self.asked, k=self.chance.choice((1, 1, 2, 3)))
        return ("watch", self.chance.choice(PERSONS[:2]), tuple(questions))

    def one(self):
        """One that watches; any number where none does."""
        return self.chance.choice(list(self.model.glasses) or [0])

    def end(self):
        return ("end", self.one())

    def on(self, word, roads):
        """A letter on one of these roads; where there is none on any, most often one is sent."""
        full = [w for w in roads if roads[w]]
        if not full:
            if self.chance.randrange(8):
                return self.beat() if roads is self.model.roads else self.say()
            return (word, self.one(), 0)
        w = self.chance.choice(full)
        return (word, w, self.chance.choice((0, self.chance.randrange(len(roads[w])))))

    def bring(self):
        return self.on("bring", self.model.roads)

    def lose(self):
        return self.on("lose", self.model.roads)

    def double(self):
        return self.on("double", self.model.roads)

    def carry(self):
        return self.on("carry", self.model.backs)

    def drop(self):
        return self.on("drop", self.model.backs)

    def beat(self):
        w = self.one()
        self.talk = self.talk or [("bring", w), ("say", w), ("carry", w)]
        return ("beat", w)

    def say(self):
        return ("say", self.one())

    def cut(self):
        return ("cut", self.one())

    def off(self):
        return ("off", self.one())

    def turn(self):
        return ("turn", self.chance.choice((1, 1, 2, 3, 9)))

    def fold(self):
        return ("fold",)

    def fall(self):
        return ("fall",)

    def torn(self):
        entry = self.entry(("deal", "right", "watch"))
        try:
            longest = len(plain_text.entry(entry)) + 1
        except (TypeError, ValueError, IndexError):
            longest = 1
        return ("torn", entry, self.chance.choice((1, longest, longest + 1, self.chance.randrange(longest) + 1)))


def line(entry):
    """The entry as a line of the desk, where it has one that can be written; else None."""
    word = entry[0]
    if word in ("turn", "torn"):
        return None
    if word in ("deal", "right", "watch", "end"):
        try:
            return plain_text.entry(entry)
        except (TypeError, ValueError, IndexError):
            return None
    return " ".join(map(str, entry))
