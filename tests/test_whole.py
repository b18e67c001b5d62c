"""[4] The promise, (a) to (h): scripts of scenes drawn by chance, held behind each entry against a plain one."""

import copy
import random
import unittest

from standviews.coming import come_up
from standviews.desk import Desk
from standviews.errors import NoPaper, ViewError
from standviews.papers import paper, shows_paper
from standviews.scenes import Scene
from tests import making, plain, plain_house, plain_text, scripts
from tests.things import is_plain, shown

BAD = {"bad_rights": scripts.BAD_RIGHTS, "bad_questions": scripts.BAD_QUESTIONS}
PLAN = making.PLAN


def outcome(step, entry):
    """What the scene's step tells, or the name and the value of what it is refused with."""
    try:
        return "told", step(entry)
    except ViewError as error:
        return (type(error).__name__,) + tuple(vars(error).values())


def plain_outcome(model, entry):
    try:
        return "told", model.step(entry)
    except plain_house.Refused as refused:
        return (refused.name,) + refused.value


def house_told(house):
    """All that a house is, but for what it has heard, whose turn it is, and its works."""
    return (house.moment(), house.store(), house.begun(), house.written(), house.watchers(),
            [house.rights(person) for person in scripts.PERSONS],
            [house.past(moment) for moment in range(house.begun(), house.moment() + 1)],
            [house.line(w) for w, _, _ in house.watchers()], [piece for piece, _ in house.works()])


class Whole(unittest.TestCase):
    def begin(self, seed, words=tuple(scripts.OFTEN), **told):
        chance = random.Random(seed)
        told = told or {"kept": chance.randrange(9), "room": chance.randrange(1, 5)}
        self.scene, self.model = Scene(PLAN, **told), plain_house.Scene(PLAN, **told, **BAD)
        self.script = scripts.Script(chance, self.model, words)
        self.chance, self.kept, self.held = chance, told["kept"], {}
        return chance

    def step(self):
        """The next entry, done by both; what it told is alike."""
        entry = self.script.entry()
        told, due = outcome(self.scene.step, entry), plain_outcome(self.model, entry)
        self.assertEqual(told, due, entry)
        if told[0] == "told":
            self.assertTrue(is_plain(told))
            if entry[0] in ("fall", "torn"):
                self.adopt()
        return entry, told

    def adopt(self):
        """A fall leaves the works open: the plain one counts on from those of the house."""
        house = self.model.house
        house.worked = {plain_text.question(piece): many for piece, many in self.scene.house().works()}
        house.total = self.scene.house().total()

    def check_house(self):
        house, model = self.scene.house(), self.model.house
        self.assertEqual((house.moment(), house.store()), (model.moment, model.store))
        self.assertEqual(house.watchers(), model.told_watchers())
        for person in scripts.PERSONS:
            self.assertEqual(house.rights(person), model.rights(person))
        for w in model.watchers:
            self.assertEqual(house.line(w), model.line(w))
            self.assertEqual((house.mark(w), house.beat(w)), (model.watchers[w].mark, model.beat(w)))
            self.assertLessEqual(len(house.line(w)[2]), self.kept + 1)
        self.assertEqual((house.works(), house.total()), (model.works(), model.total))

    def check_text(self):
        house, model = self.scene.house(), self.model.house
        self.assertEqual((house.written(), house.begun()), (model.text(), model.begun))
        for moment in range(model.begun, model.moment + 1):
            self.assertEqual(house.past(moment), model.past[moment])

    def check_roads(self):
        for w in self.model.glasses:
            self.assertEqual(self.scene.road(w), tuple(self.model.roads[w]))
            self.assertEqual(self.scene.back(w), tuple(self.model.backs[w]))
            self.assertLessEqual(max(len(self.scene.road(w)), len(self.scene.back(w))), self.model.room)

    def check_glasses(self):
        """(a): just one number's answers, that never goes back."""
        for w, glass in self.model.glasses.items():
            (life, k), rows = self.scene.glass(w)
            self.assertEqual((life, k), (glass.life, glass.k))
            numbers = self.model.house.watchers[w].numbers
            if k == -1:
                self.assertEqual(rows, ((),) * len(numbers[0][1]))
                continue
            self.assertEqual(rows, numbers[k][2])
            self.assertGreaterEqual(k, self.held.get(w, -1))
            self.held[w] = k

    def check_letters(self):
        """(d), (h): what letters bear, and their papers."""
        house, model = self.scene.house(), self.model.house
        for w in self.model.glasses:
            for letter in self.scene.road(w) + (house.beat(w),):
                if letter is not None:
                    due = model.paper(letter)
                    self.assertEqual(self.paper(letter), due, letter)
                    self.assertIs(shows_paper(house, letter, due or ()), due is not None)
            letter = house.beat(w)
            if letter is not None:
                bags = model.watchers[w].numbers[-1][1]
                come = letter[4] if letter[0] == "whole" else [come for _, come in letter[5]]
                gone = [] if letter[0] == "whole" else [gone for gone, _ in letter[5]]
                self.assertTrue(all(row in bag for rows, bag in zip(come, bags) for row in rows))
                self.assertLessEqual(sum(map(len, [*come, *gone])), sum(map(len, bags)))

    def paper(self, letter):
        try:
            return paper(self.scene.house(), letter)
        except NoPaper:
            return None

    def check_up_again(self):
        """(g): a house comes up from its text as it is, and from its fold."""
        house = self.scene.house()
        other = come_up(PLAN, house.written(), kept=self.kept)
        self.assertEqual(house_told(other), house_told(house))
        other.fold()
        again = come_up(PLAN, other.written(), kept=self.kept)
        self.assertEqual(house_told(again), house_told(other))

    def check_rounds(self):
        """(b): what three rounds leave, from here."""
        scene = copy.deepcopy(self.scene)
        self.assertIsNone(scene.rounds(3))
        for w, watcher in self.model.house.watchers.items():
            mark, rows = scene.glass(w)
            self.assertEqual((mark[1], rows), (len(watcher.numbers) - 1, watcher.numbers[-1][2]))
            self.assertEqual((scene.road(w), scene.back(w), scene.house().mark(w)), ((), (), mark))


class Scripts(Whole):
    def test_all_kinds_of_entries_amid_one_another(self):
        for seed in range(70):
            chance = self.begin(seed)
            for _ in range(70):
                entry, _ = self.step()
                with self.subTest((seed, shown(entry))):
                    self.check_house()
                    self.check_roads()
                    self.check_glasses()
                    self.check_letters()
                    if entry[0] in ("fall", "torn", "fold") or not chance.randrange(6):
                        self.check_text()
                        self.check_up_again()
                    if not chance.randrange(8):
                        self.check_rounds()


class Twins(unittest.TestCase):
    """(c): what a watcher is sent hangs on its own line, its roads and what was heard of it alone."""

    OWN = ("talk",) * 14 + ("beat", "beat", "bring", "say", "carry") * 2 + (
        "lose", "double", "drop", "cut", "off", "fold", "fall", "torn")

    def begin(self, chance):
        told = {"kept": chance.choice((0, 1, 2, 3, 8)), "room": chance.randrange(1, 5)}
        self.scenes, self.chance = (Scene(PLAN, **told), Scene(PLAN, **told)), chance
        self.asked = [("all", chance.choice(PLAN)[0])] + [making.question(chance, 5) for _ in range(3)]
        rights = tuple((making.check(chance, columns) if chance.randrange(2) else None,
                        tuple(name for name, _ in columns if chance.randrange(4))) for _, columns in PLAN)
        self.both(("deal", tuple(("put", table, making.row(chance, columns)) for table, columns in PLAN
                                 for _ in range(3))))
        for (table, _), right in zip(PLAN, rights):
            self.both(("right", "ann", table, right))
        self.both(("watch", "ann", tuple(chance.choices(self.asked, k=2))))

    def both(self, entry):
        """An entry in both scenes, which tells the same in both, but for the moments of the one and the other."""
        one, other = [outcome(scene.step, entry) for scene in self.scenes]
        if entry[0] in ("deal", "right"):
            self.assertEqual(one[0], other[0])
        else:
            self.assertEqual(one, other)

    def seen(self, scene, dealing=()):
        """What ann sees behind the dealing; None where it is refused."""
        house = plain_house.House(PLAN, 0)
        house.store = scene.house().store()
        try:
            return plain.seen(PLAN, house.dealt(dealing), scene.house().rights("ann"))
        except plain_house.Refused:
            return None

    def dealing(self, scene):
        changes = [("drop", table, row[0]) for (table, _), rows in zip(PLAN, scene.house().store()) for row in rows
                   if not self.chance.randrange(12)]
        for _ in range(self.chance.choice((0, 1, 1, 2))):
            table, columns = self.chance.choice(PLAN)
            changes.append(("put", table, making.row(self.chance, columns)))
        return tuple(changes)

    def own(self):
        """An entry of the watcher's own, a fall, a fold, a torn one, or a dealing that ann sees alike in both."""
        if not self.chance.randrange(3):
            dealing = self.dealing(self.scenes[0])
            told = self.seen(self.scenes[0], dealing)
            if told is not None and told == self.seen(self.scenes[1], dealing):
                self.both(("deal", dealing))
            return
        word = self.chance.choice(self.OWN)
        if word in ("fold", "fall"):
            self.both((word,))
        elif word == "talk":
            for entry in (("beat", 0), ("bring", 0, 0), ("say", 0), ("carry", 0, 0)):
                self.noise()
                self.both(entry)
        elif word == "torn":
            self.both((word, ("deal", ()), self.chance.randrange(1, 7)))
        elif word in ("bring", "lose", "double", "carry", "drop"):
            self.both((word, 0, self.chance.choice((0, 0, 1, 3))))
        else:
            self.both((word, 0))

    def noise(self):
        """What ann doesn't see, in the one scene alone."""
        scene = self.scenes[1]
        word = self.chance.choice(("deal", "deal", "right", "watch", "end", "beat", "bring", "say", "carry", "cut"))
        w = self.chance.choice([w for w, _, _ in scene.house().watchers()][1:] or [99])
        table, columns = self.chance.choice(PLAN)
        if word == "deal":
            dealing = self.dealing(scene)
            if self.seen(scene, dealing) == self.seen(scene):
                scene.step((word, dealing))
                self.dealt += dealing != ()
        elif word == "right":
            scene.step((word, "bo", table, making.right(self.chance, columns)))
        elif word == "watch":
            scene.step((word, self.chance.choice(("ann", "bo")), (self.chance.choice(self.asked),)))
        else:
            outcome(scene.step, (word, w, 0) if word in ("bring", "carry") else (word, w))

    def test_others_change_no_letter(self):
        letters, self.dealt = [], 0
        for seed in range(60):
            self.begin(random.Random(seed))
            for _ in range(60):
                self.own()
                for _ in range(self.chance.randrange(3)):
                    self.noise()
                one, other = self.scenes
                self.assertEqual(one.house().line(0)[:2], other.house().line(0)[:2])
                self.assertEqual((one.road(0), one.back(0), one.glass(0), one.house().mark(0), one.house().beat(0)),
                                 (other.road(0), other.back(0), other.glass(0), other.house().mark(0),
                                  other.house().beat(0)))
                letters += one.road(0)[-1:]
        self.assertGreater(len({letter for letter in letters if letter[0] == "change"}), 30)
        self.assertGreater(self.dealt, 300)


class Beside(Whole):
    """(h): the desk answers as the scene tells, and whatever is refused in its midst leaves it in order."""

    WORDS = tuple(word for word in scripts.OFTEN if word not in ("turn", "torn"))

    def expected(self, told):
        """The answer for what a step of the scene told."""
        if told is True or told is False:
            return "yes" if told else "no"
        if type(told) is tuple:
            return plain_text.letter(told)
        return "none" if told is None else str(told)

    def has_line(self, entry):
        """Whether the entry has a line of the desk, by its form."""
        word, *things = entry
        if word in ("right", "watch"):
            return plain_house.is_name(things[0]) and "see" not in scripts.line(entry).split(" ")
        if word == "deal":
            return all(table in dict(PLAN) for way, table, _ in things[0] if way == "put")
        return all(thing >= 0 for thing in things)

    def is_sayable(self, entry):
        """Whether the entry can be written as a line that means it, or none."""
        if not is_plain(entry) or scripts.line(entry) is None:
            return False
        return entry[0] in ("deal", "right", "watch") or all(type(thing) is int for thing in entry[1:])

    def next_line(self):
        """A line, and the outcome that it is to have: of an entry that is done in the scene."""
        entry = self.script.entry()
        while not self.is_sayable(entry):
            entry = self.script.entry()
        line = scripts.line(entry)
        if not self.has_line(entry):
            return line, ("NoLine",)
        told, due = outcome(self.scene.step, entry), plain_outcome(self.model, entry)
        self.assertEqual(told, due)
        return line, (told[0], self.expected(told[1])) if told[0] == "told" else told

    def check_desk(self, desk):
        house = self.scene.house()
        self.assertEqual(desk.say("moment"), str(house.moment()))
        self.assertEqual(desk.say("works"), str(house.total()))
        for w in self.model.glasses:
            (life, k), rows = self.scene.glass(w)
            self.assertEqual(desk.say(f"glass {w}"), f"{life} {k} {plain_text.bags(rows)}")

    def test_line_by_line(self):
        for seed in range(25):
            self.begin(seed, self.WORDS, kept=8, room=4)
            desk, log = Desk(PLAN), []
            for _ in range(70):
                line, due = self.next_line()
                self.assertEqual(outcome(desk.say, line), due, line)
                log.append("said" if due[0] == "told" else "refused")
            self.assertEqual(desk.log(), tuple(log))
            self.check_desk(desk)

    def said_all(self, desk, lines, **keep):
        try:
            return "told", desk.say_all(tuple(lines), **keep)
        except ViewError as error:
            return (type(error).__name__,) + tuple(vars(error).values())

    def test_many_lines_at_once_and_those_that_do_not_stay(self):
        for seed in range(25):
            chance = self.begin(seed, self.WORDS, kept=8, room=4)
            desk, log = Desk(PLAN), ()
            for _ in range(10):
                lines, answers, refused = [], [], None
                for _ in range(chance.randrange(9)):
                    line, due = self.next_line()
                    lines.append(line)
                    if due[0] != "told":
                        refused = due
                        break
                    answers.append(due[1])
                # First so that nothing of it stays, then so that all does.
                self.assertEqual(self.said_all(desk, [*lines, "none"], keep=False), refused or ("NoLine",))
                self.assertEqual(self.said_all(desk, lines, keep=bool(refused) or chance.choice((True, False))),
                                 refused or ("told", tuple(answers)))
                said = ("open",) + ("said",) * len(answers)
                log += said + ("refused", "shut") + said + (("refused", "shut") if refused else ("shut",))
                self.assertEqual(desk.log(), log)
                self.check_desk(desk)
                log = desk.log()


if __name__ == "__main__":
    unittest.main()
