"""[26] Scenes; [2] entries, scripts and watchers of any kind, the first refusal named, a refusal changes nothing."""

import unittest

from standviews.coming import come_up
from standviews.errors import (Full, NoDeal, NoEntry, NoLetter, NoPerson, NoPlan, NoQuestion, NoRight, NoScript,
                               NoWatcher, ViewError)
from standviews.houses import House
from standviews.scenes import Scene
from standviews.showing import show_entry
from tests.things import Odd, Row, Text, Whole, anything, copied, is_plain, shown, spoilt

PLAN = (
    ("aa", (("k", "number"), ("s", "name"))),
    ("bb", (("id", "name"),)),
)
AA, BB = ("all", "aa"), ("all", "bb")
ALL = (None, ("k", "s"))
GIVE = ("right", "ann", "aa", ALL)
WATCH = ("watch", "ann", (AA,))
NOTHING = ((), ())
# As many things as each entry has, its word counted; what stands there may be anything.
FORMS = {"deal": 2, "right": 4, "watch": 3, "end": 2, "beat": 2, "turn": 2, "bring": 3, "lose": 3, "double": 3,
         "say": 2, "carry": 3, "drop": 3, "cut": 2, "off": 2, "fold": 1, "fall": 1, "torn": 3}


def put(*keys):
    return ("deal", tuple(("put", "aa", (k, "a")) for k in keys))


def row(k):
    return (k, "a")


def told(scene):
    """All that a scene tells."""
    house = scene.house()
    numbers = [w for w, _, _ in house.watchers()]
    return (house.moment(), house.store(), house.written(), house.begun(), house.watchers(), house.works(),
            house.total(), tuple(house.rights(person) for person in ("ann", "bo")),
            tuple((house.line(w), house.mark(w), house.beat(w), scene.glass(w), scene.road(w), scene.back(w))
                  for w in numbers))


class Scenes(unittest.TestCase):
    def begin(self, *script, **kept):
        self.scene = Scene(PLAN, **kept)
        self.scene.walk(script)

    def does(self, entry, answer):
        with self.subTest(shown(entry)):
            found = self.scene.step(entry)
            self.assertEqual((found, type(found)), (answer, type(answer)))
            self.assertTrue(is_plain(found))

    def refuses(self, error, entry, *value):
        held = told(self.scene)
        try:
            found = self.scene.step(entry)
        except ViewError as refused:
            if type(refused) is not error:
                self.fail(f"{shown(entry)} is refused with {type(refused).__name__}")
            for one, other in zip(vars(refused).values(), value):
                self.assertEqual((one, type(one)), (other, type(other)))
            self.assertEqual(len(value), len(vars(refused)))
        else:
            self.fail(f"{shown(entry)} told {found}")
        self.assertEqual(told(self.scene), held)


class Beginning(Scenes):
    def test_of_no_plan(self):
        for thing in anything() + [list(PLAN), PLAN[::-1]]:
            self.assertRaises(NoPlan, Scene, thing)
        for how, where, thing in spoilt(PLAN):
            with self.subTest((how, where)):
                self.assertRaises(NoPlan, Scene, thing)

    def test_kept_and_room_are_handed_in_by_their_names_alone(self):
        self.assertRaises(TypeError, Scene, PLAN, 3)
        for named in ({}, {"kept": 0}, {"room": 1}, {"room": 2, "kept": 3}):
            self.assertEqual(Scene(PLAN, **named).house().moment(), 0)

    def test_its_house_is_empty(self):
        scene = Scene(PLAN)
        self.assertEqual(told(scene), (0, ((), ()), "", 0, (), (), 0, ((None, None),) * 2, ()))
        self.assertIsInstance(scene.house(), House)

    def test_kept_is_that_of_its_house_behind_a_fall_too(self):
        for kept in (0, 1, 3, None):
            self.begin(GIVE, WATCH, *[put(k) for k in range(12)], **({} if kept is None else {"kept": kept}))
            for fall in (("fall",), ("fold",), ("fall",)):
                self.assertEqual(len(self.scene.house().line(0)[2]), (8 if kept is None else kept) + 1)
                self.scene.step(fall)

    def test_room_is_that_of_both_roads(self):
        for room in (1, 2, 4, None):
            self.begin(WATCH, **({} if room is None else {"room": room}))
            many = 4 if room is None else room
            for _ in range(many):
                self.does(("beat", 0), ("whole", 0, 0, 0, ((),)))
                self.does(("say", 0), True)
            self.does(("beat", 0), "full")
            self.does(("say", 0), False)
            self.assertEqual((len(self.scene.road(0)), len(self.scene.back(0))), (many, many))


class WrittenEntries(Scenes):
    def test_they_are_done_by_the_house_and_told_as_there(self):
        self.begin()
        self.does(GIVE, 1)
        self.does(put(1), 2)
        self.does(WATCH, 0)
        self.does(("watch", "bo", (AA, BB)), 1)
        self.does(("right", "bo", "bb", None), 3)
        self.does(("deal", ()), 4)
        self.does(("end", 0), True)
        self.assertEqual(self.scene.house().watchers(), ((1, "bo", (AA, BB)),))
        self.assertEqual(self.scene.house().written(), "".join(show_entry(entry) + "\n" for entry in (
            GIVE, put(1), WATCH, ("watch", "bo", (AA, BB)), ("right", "bo", "bb", None), ("deal", ()), ("end", 0))))

    def test_at_a_watch_a_glass_and_both_roads_are_there(self):
        self.begin(WATCH, ("watch", "bo", (AA, BB)))
        self.assertEqual((self.scene.glass(0), self.scene.road(0), self.scene.back(0)), (((0, -1), ((),)), (), ()))
        self.assertEqual(self.scene.glass(1), ((0, -1), ((), ())))
        self.assertTrue(is_plain((self.scene.glass(0), self.scene.road(0), self.scene.back(0))))

    def test_at_an_end_they_are_gone(self):
        self.begin(WATCH, WATCH, ("beat", 0), ("say", 0), ("end", 0))
        for asked in (self.scene.glass, self.scene.road, self.scene.back):
            self.assertRaises(NoWatcher, asked, 0)
            asked(1)
        self.begin(WATCH, ("beat", 0), ("end", 0), WATCH)
        self.assertEqual((self.scene.road(1), self.scene.glass(1)), ((), ((0, -1), ((),))))

    def test_refused_as_there(self):
        self.begin(GIVE, WATCH, put(1))
        self.refuses(NoDeal, ("deal", (("put", "aa", (2, "a")), ("drop", "aa", 9))), 1)
        self.refuses(NoDeal, ("deal", [("drop", "aa", 1)]), None)
        self.refuses(NoPerson, ("right", "Ann", "zz", 5), "Ann")
        self.refuses(NoRight, ("right", "ann", "zz", None))
        self.refuses(NoPerson, ("watch", "", ()), "")
        self.refuses(NoQuestion, ("watch", "ann", ()))
        self.refuses(NoWatcher, ("end", 1), 1)
        self.refuses(NoWatcher, ("end", False), False)


class Letters(Scenes):
    WHOLE = ("whole", 0, 0, 1, ((row(1),),))

    def setUp(self):
        self.begin(GIVE, WATCH, put(1))

    def test_a_beat_puts_the_letter_on_the_road(self):
        self.does(("beat", 0), self.WHOLE)
        self.assertEqual(self.scene.road(0), (self.WHOLE,))
        self.scene.step(put(2))
        self.does(("beat", 0), ("whole", 0, 0, 2, ((row(1), row(2)),)))
        self.assertEqual([letter[3] for letter in self.scene.road(0)], [1, 2])

    def test_a_beat_of_one_that_has_the_newest(self):
        self.scene.rounds(1)
        self.does(("beat", 0), None)
        self.assertEqual(self.scene.road(0), ())

    def test_a_beat_of_one_that_has_the_newest_at_a_full_road(self):
        self.scene.rounds(1)
        self.scene.step(put(2))
        for _ in range(4):
            self.scene.step(("beat", 0))
        self.does(("beat", 0), "full")
        self.scene.walk((("say", 0), ("bring", 0, 0), ("say", 0), ("carry", 0, 1), ("double", 0, 0)))
        self.assertEqual(len(self.scene.road(0)), 4)
        self.does(("beat", 0), None)

    def test_a_full_road_takes_nothing(self):
        self.begin(WATCH, ("beat", 0), put(1), room=1)
        self.does(("beat", 0), "full")
        self.assertEqual(self.scene.road(0), (("whole", 0, 0, 0, ((),)),))

    def test_bring_tells_as_hear(self):
        self.scene.walk((("beat", 0), ("beat", 0), put(2), ("beat", 0)))
        self.does(("bring", 0, 1), True)
        self.assertEqual(self.scene.glass(0), ((0, 1), ((row(1),),)))
        self.does(("bring", 0, 0), False)
        self.does(("bring", 0, 0), True)
        self.assertEqual((self.scene.glass(0), self.scene.road(0)), (((0, 2), ((row(1), row(2)),)), ()))

    def test_a_change_is_heard(self):
        self.scene.rounds(1)
        self.scene.step(put(2))
        self.does(("beat", 0), ("change", 0, 0, 1, 2, (((), (row(2),)),)))
        self.does(("bring", 0, 0), True)
        self.assertEqual(self.scene.glass(0), ((0, 2), ((row(1), row(2)),)))

    def test_lose_and_double(self):
        self.scene.walk((("beat", 0), put(2), ("beat", 0)))
        self.does(("double", 0, 0), True)
        self.assertEqual([letter[3] for letter in self.scene.road(0)], [1, 2, 1])
        self.does(("lose", 0, 0), True)
        self.assertEqual([letter[3] for letter in self.scene.road(0)], [2, 1])
        self.assertEqual(self.scene.glass(0)[0], (0, -1))

    def test_say_puts_what_the_glass_says_on_the_road_back(self):
        self.does(("say", 0), True)
        self.scene.walk((("beat", 0), ("bring", 0, 0)))
        self.does(("say", 0), True)
        self.assertEqual(self.scene.back(0), (("have", 0, 0, -1), ("have", 0, 0, 1)))
        self.assertEqual(self.scene.house().mark(0), (0, -1))

    def test_carry_tells_as_heard(self):
        self.scene.walk((("say", 0), ("beat", 0), ("bring", 0, 0), ("say", 0), ("say", 0)))
        self.does(("carry", 0, 0), False)
        self.does(("carry", 0, 1), True)
        self.assertEqual((self.scene.house().mark(0), self.scene.back(0)), ((0, 1), (("have", 0, 0, 1),)))
        self.does(("carry", 0, 0), False)

    def test_drop_loses_there(self):
        self.scene.walk((("say", 0), ("beat", 0), ("bring", 0, 0), ("say", 0), ("beat", 0)))
        self.does(("drop", 0, 0), True)
        self.assertEqual((self.scene.back(0), self.scene.house().mark(0)), ((("have", 0, 0, 1),), (0, -1)))
        self.assertEqual(len(self.scene.road(0)), 1)

    def test_cut(self):
        self.scene.walk((("beat", 0), ("bring", 0, 0), ("say", 0), ("beat", 0)))
        self.does(("cut", 0), True)
        self.assertEqual(self.scene.glass(0), ((1, -1), ((),)))
        self.assertEqual((len(self.scene.road(0)), len(self.scene.back(0))), (1, 1))
        self.does(("bring", 0, 0), False)
        self.does(("say", 0), True)
        self.assertEqual(self.scene.back(0), (("have", 0, 0, 1), ("have", 0, 1, -1)))
        self.does(("carry", 0, 1), True)
        self.does(("carry", 0, 0), False)
        self.does(("beat", 0), ("whole", 0, 1, 1, ((row(1),),)))
        self.does(("bring", 0, 0), True)

    def test_off_loses_all_on_both_roads(self):
        self.scene.walk((WATCH, ("beat", 0), ("beat", 0), ("say", 0), ("say", 0), ("beat", 1), ("say", 1)))
        self.does(("off", 0), True)
        self.assertEqual((self.scene.road(0), self.scene.back(0)), ((), ()))
        self.assertEqual((len(self.scene.road(1)), len(self.scene.back(1))), (1, 1))
        self.does(("off", 0), True)
        self.assertEqual(self.scene.glass(0)[0], (0, -1))

    def test_each_watcher_has_its_own(self):
        self.scene.walk((WATCH, ("beat", 1), ("bring", 1, 0), ("say", 1)))
        self.assertEqual((self.scene.road(0), self.scene.back(0), self.scene.glass(0)), ((), (), ((0, -1), ((),))))
        self.assertEqual(self.scene.glass(1), ((0, 0), ((row(1),),)))

    def test_rows_stand_as_their_answers(self):
        question = ("first", 2, (("k", "down"),), AA)
        self.begin(GIVE, ("watch", "ann", (question, AA)), put(1, 2, 3), ("beat", 0), ("bring", 0, 0))
        self.assertEqual(self.scene.glass(0), ((0, 1), ((row(3), row(2)), (row(1), row(2), row(3)))))


class Turns(Scenes):
    def test_each_letter_is_put_on_its_road(self):
        self.begin(GIVE, WATCH, WATCH, WATCH, put(1), room=1)
        wholes = [("whole", w, 0, 1, ((row(1),),)) for w in range(3)]
        self.does(("turn", 2), ((0, wholes[0]), (1, wholes[1])))
        self.does(("turn", 2), ((2, wholes[2]), (0, "full")))
        self.assertEqual([self.scene.road(w) for w in range(3)], [(whole,) for whole in wholes])
        self.scene.walk((("bring", 1, 0), ("say", 1), ("carry", 1, 0)))
        self.does(("turn", 10 ** 12), ((1, None), (2, "full"), (0, "full")))

    def test_of_none(self):
        self.begin()
        self.does(("turn", 1), ())

    def test_loads_that_are_none(self):
        self.begin(WATCH)
        for load in [0, -1, True, False, None, "1", 1.0, Whole(1), (1,), Odd()] + anything():
            if type(load) is not int or load < 1:
                self.refuses(NoEntry, ("turn", load))
        self.does(("turn", 1), ((0, ("whole", 0, 0, 0, ((),))),))


class Folds(Scenes):
    SCRIPT = (GIVE, WATCH, put(1), ("beat", 0), ("bring", 0, 0), ("say", 0), ("carry", 0, 0), put(2), ("say", 0),
              ("beat", 0), ("cut", 0), ("say", 0), ("watch", "bo", (AA,)), ("beat", 1))

    def places(self):
        return [(self.scene.glass(w), self.scene.road(w), self.scene.back(w)) for w in (0, 1)]

    def test_fold(self):
        self.begin(*self.SCRIPT)
        held, mark = self.places(), self.scene.house().mark(0)
        self.does(("fold",), True)
        self.assertEqual(self.scene.house().written()[:13], "picture 3 2\nr")
        self.assertEqual((self.places(), self.scene.house().mark(0)), (held, mark))

    def test_fall_with_letters_on_the_roads_and_glasses_as_they_stand(self):
        for fold in ((), (("fold",),), (("fold",), put(3))):
            self.begin(*self.SCRIPT, *fold)
            house = self.scene.house()
            held, line, text = self.places(), house.line(0), house.written()
            self.assertEqual(house.mark(0), (0, 1))
            self.does(("fall",), True)
            house = self.scene.house()
            self.assertEqual((self.places(), house.line(0), house.written()), (held, line, text))
            self.assertEqual((house.mark(0), house.mark(1)), ((0, -1), (0, -1)))

    def test_what_is_underway_goes_on_behind_a_fall(self):
        self.begin(*self.SCRIPT, ("fall",))
        self.assertEqual(self.scene.back(0), (("have", 0, 0, 1), ("have", 0, 1, -1)))
        self.does(("carry", 0, 0), True)
        self.does(("beat", 0), ("change", 0, 0, 1, 2, (((), (row(2),)),)))
        self.does(("bring", 0, 1), False)
        self.does(("carry", 0, 0), True)
        self.does(("beat", 0), ("whole", 0, 1, 2, ((row(1), row(2)),)))
        self.does(("bring", 0, 1), True)
        self.assertEqual(self.scene.glass(0), ((1, 2), ((row(1), row(2)),)))

    def test_turns_begin_anew_behind_a_fall(self):
        self.begin(WATCH, WATCH, WATCH, ("turn", 2), ("fold",))
        self.assertEqual([w for w, _ in self.scene.step(("turn", 1))], [2])
        self.scene.walk((("turn", 2), ("fall",)))
        self.assertEqual([w for w, _ in self.scene.step(("turn", 1))], [0])

    def test_numbers_go_on_behind_a_fall(self):
        self.begin(WATCH, WATCH, ("end", 1), ("fall",))
        self.does(WATCH, 2)
        self.scene.walk((("end", 2), ("fold",), ("fall",)))
        self.does(WATCH, 3)

    def test_of_an_empty_scene(self):
        self.begin()
        for entry in (("fall",), ("fold",), ("fall",), ("fold",)):
            self.does(entry, True)
        self.assertEqual(self.scene.house().written(), "picture 0 0\nentries\n")


class Torn(Scenes):
    ENTRIES = (put(7), ("deal", ()), ("right", "ann", "aa", None), ("watch", "bo", (AA, ("once", BB))), ("end", 0),
               ("deal", (("drop", "aa", 1),)))

    def setUp(self):
        self.begin(*Folds.SCRIPT)

    def test_of_each_many_the_house_falls_and_nothing_is_done(self):
        for fold in ((), (("fold",),)):
            for entry in self.ENTRIES:
                for many in range(1, len(show_entry(entry)) + 2):
                    self.begin(*Folds.SCRIPT, *fold)
                    self.scene.step(("fall",))
                    due = told(self.scene)
                    self.begin(*Folds.SCRIPT, *fold)
                    self.does(("torn", entry, many), True)
                    self.assertEqual(told(self.scene), due)

    def test_of_one_more_than_the_row_has_signs_its_line_feed_too(self):
        for entry in self.ENTRIES:
            for many in (len(show_entry(entry)) + 2, 10 ** 6, 10 ** 30):
                self.refuses(NoEntry, ("torn", entry, many))

    def test_of_manys_that_are_none(self):
        for many in [0, -1, True, False, None, "1", Whole(1), (1,), Odd()] + anything():
            if type(many) is not int or many < 1:
                self.refuses(NoEntry, ("torn", put(7), many))
                self.refuses(NoEntry, ("torn", ("end", 99), many))

    def test_refused_as_the_entry_is_ahead_of_a_many_that_is_too_great(self):
        for many in (1, 10 ** 6):
            self.refuses(NoDeal, ("torn", ("deal", (("drop", "aa", 9),)), many), 0)
            self.refuses(NoDeal, ("torn", ("deal", None), many), None)
            self.refuses(NoPerson, ("torn", ("right", "A", "zz", 1), many), "A")
            self.refuses(NoRight, ("torn", ("right", "ann", "zz", None), many))
            self.refuses(NoPerson, ("torn", ("watch", 1, ()), many), 1)
            self.refuses(NoQuestion, ("torn", ("watch", "ann", (("all", "zz"),)), many))
            self.refuses(NoWatcher, ("torn", ("end", 2), many), 2)
            self.refuses(NoWatcher, ("torn", ("end", True), many), True)

    def test_of_what_is_no_entry_that_is_written(self):
        for entry in (("beat", 0), ("fold",), ("fall",), ("torn", put(7), 1), ("turn", 1), ("deal",), ("end",),
                      ("deal", (), ()), ("end", 0, 0), list(put(7)), Row(put(7)), (Text("deal"), ()), None, (), "deal",
                      show_entry(put(7))):
            for many in (1, 10 ** 6):
                self.refuses(NoEntry, ("torn", entry, many))
        for thing in anything():
            self.refuses(NoEntry, ("torn", thing, 1))

    def test_twice_and_with_other_entries_behind(self):
        self.does(("torn", put(7), 1), True)
        self.does(("torn", put(7), 3), True)
        self.does(put(7), 4)
        self.does(("torn", ("end", 0), 2), True)
        self.assertEqual(self.scene.house().store()[0], (row(1), row(2), row(7)))
        self.assertEqual(come_up(PLAN, self.scene.house().written()).store(), self.scene.house().store())


class Refused(Scenes):
    def setUp(self):
        self.begin(GIVE, WATCH, WATCH, put(1), ("beat", 1), ("say", 1), ("end", 0))

    def test_entries_of_another_form(self):
        for word, many in FORMS.items():
            for other in range(1, 8):
                if other != many:
                    self.refuses(NoEntry, (word,) + (1,) * (other - 1))
            entry = (word,) + (1,) * (many - 1)
            for thing in (list(entry), Row(entry), (Text(word),) + entry[1:], (word.upper(),) + entry[1:],
                          (word + " ",) + entry[1:], (word.encode(),) + entry[1:], (entry,), word):
                self.refuses(NoEntry, thing)
        for entry in ((), ("",), ("go", 1), ("put", "aa", (1, "a")), ("moment",), ("works",), ("glass", 1),
                      ("have", 1, 0, 0)):
            self.refuses(NoEntry, entry)

    def test_of_anything(self):
        for thing in anything():
            self.refuses(NoEntry, thing)
            self.refuses(NoEntry, (thing,))
            self.refuses(NoEntry, (thing, 1))
            self.refuses(NoEntry, (thing, 1, 0))

    def test_watchers_of_any_kind(self):
        for w in [0, 2, -1, True, False, "1", 10 ** 20, Whole(1)] + anything():
            for word in ("end", "beat", "say", "cut", "off"):
                self.refuses_of(NoWatcher, "w", w, (word, w))
            for word in ("bring", "lose", "double", "carry", "drop"):
                for i in (0, 99, None, w):
                    self.refuses_of(NoWatcher, "w", w, (word, w, i))

    def refuses_of(self, error, name, value, entry):
        held = told(self.scene)
        with self.assertRaises(error) as caught:
            self.scene.step(entry)
        self.assertIs(getattr(caught.exception, name), value)
        self.assertEqual(told(self.scene), held)

    def test_letters_of_any_kind(self):
        for i in [-1, 1, 2, True, False, "0", 10 ** 20, Whole(0)] + anything():
            for word in ("bring", "lose", "double", "carry", "drop"):
                self.refuses_of(NoLetter, "i", i, (word, 1, i))

    def test_a_full_road_doubles_nothing_and_what_is_no_letter_is_named_first(self):
        self.begin(WATCH, ("beat", 0), room=1)
        self.refuses(Full, ("double", 0, 0))
        self.refuses(NoLetter, ("double", 0, 1), 1)
        self.refuses(NoWatcher, ("double", 1, 1), 1)

    def test_what_stands_in_a_written_entry_may_be_anything(self):
        for thing in anything():
            if type(thing) is not tuple:
                self.refuses(NoDeal, ("deal", thing), None)
            self.refuses_of(NoPerson, "person", thing, ("right", thing, thing, thing))
            self.refuses_of(NoPerson, "person", thing, ("watch", thing, thing))
            self.refuses(NoRight, ("right", "ann", thing, None))
            self.refuses(NoQuestion, ("watch", "ann", thing))
            self.refuses(NoQuestion, ("watch", "ann", (AA, thing)))

    def test_entries_behind_an_end(self):
        for word in ("end", "beat", "say", "cut", "off"):
            self.refuses(NoWatcher, (word, 0), 0)
        for word in ("bring", "lose", "double", "carry", "drop"):
            self.refuses(NoWatcher, (word, 0, 0), 0)
        self.refuses(NoWatcher, ("torn", ("end", 0), 1), 0)
        self.does(("turn", 5), ((1, ("whole", 1, 0, 1, ((row(1),),))),))

    def test_glass_road_and_back_of_what_watches_not(self):
        for w in [0, 2, -1, True, False, "1"] + anything():
            for asked in (self.scene.glass, self.scene.road, self.scene.back):
                with self.assertRaises(NoWatcher) as caught:
                    asked(w)
                self.assertIs(caught.exception.w, w)


class Walks(Scenes):
    def test_what_all_tell(self):
        self.begin()
        answers = self.scene.walk((GIVE, WATCH, put(1), ("beat", 0), ("bring", 0, 0), ("say", 0), ("carry", 0, 0),
                                   ("beat", 0), ("turn", 1), ("cut", 0), ("fold",), ("end", 0)))
        self.assertEqual(answers, (1, 0, 2, ("whole", 0, 0, 1, ((row(1),),)), True, True, True, None, ((0, None),),
                                   True, True, True))
        self.assertTrue(is_plain(answers))
        self.assertEqual(self.scene.walk(()), ())

    def test_of_no_tuple(self):
        self.begin(GIVE)
        held = told(self.scene)
        for thing in [[put(1)], Row((put(1),)), "fold", None, {}] + anything():
            if type(thing) is not tuple:
                self.assertRaises(NoScript, self.scene.walk, thing)
                self.assertEqual(told(self.scene), held)

    def test_of_one_refused_in_its_midst_those_ahead_are_done(self):
        for bad, error in ((("end", 5), NoWatcher), (("go",), NoEntry), (None, NoEntry), (("deal", 1), NoDeal),
                           (("bring", 0, 9), NoLetter), (("right", "ann", "zz", None), NoRight)):
            script = (GIVE, WATCH, put(1), ("beat", 0))
            for at in range(len(script) + 1):
                self.begin()
                if at < 2 and error == NoLetter:
                    continue
                self.assertRaises(error, self.scene.walk, script[:at] + (bad,) + script[at:])
                other = Scene(PLAN)
                other.walk(script[:at])
                self.assertEqual(told(self.scene), told(other))

    def test_of_anything(self):
        self.begin()
        for thing in anything():
            self.assertRaises(NoEntry, self.scene.walk, (thing,))
            self.assertRaises(NoEntry, self.scene.walk, (("fold",), thing, ("fall",)))


class Rounds(Scenes):
    def test_of_nought(self):
        self.begin(GIVE, WATCH, put(1))
        held = told(self.scene)
        self.assertIsNone(self.scene.rounds(0))
        self.assertEqual(told(self.scene), held)

    def test_of_none_who_watch(self):
        self.begin()
        self.assertIsNone(self.scene.rounds(3))

    def test_one_is_all_beats_all_brought_all_said_all_carried(self):
        self.begin(GIVE, WATCH, WATCH, put(1), ("beat", 0), ("say", 1), ("say", 1))
        self.scene.rounds(1)
        for w in (0, 1):
            self.assertEqual(self.scene.glass(w), ((0, 1), ((row(1),),)))
            self.assertEqual((self.scene.road(w), self.scene.back(w), self.scene.house().mark(w)), ((), (), (0, 1)))

    def test_a_full_road_back_takes_one_round_more(self):
        self.begin(GIVE, WATCH, put(1), *[("say", 0)] * 4)
        self.scene.rounds(1)
        self.assertEqual((self.scene.glass(0)[0], self.scene.house().mark(0)), ((0, 1), (0, -1)))
        self.scene.rounds(1)
        self.assertEqual(self.scene.house().mark(0), (0, 1))

    def test_a_full_road_and_a_cut_take_three(self):
        self.begin(GIVE, WATCH, put(1), *[("beat", 0)] * 4, ("bring", 0, 0), *[("say", 0)] * 4, ("cut", 0),
                   ("double", 0, 0), put(2))
        self.scene.rounds(1)
        self.assertEqual((self.scene.glass(0)[0], self.scene.house().mark(0)), ((1, -1), (0, 1)))
        self.scene.rounds(1)
        self.assertEqual((self.scene.glass(0)[0], self.scene.house().mark(0)), ((1, -1), (1, -1)))
        self.scene.rounds(1)
        self.assertEqual((self.scene.glass(0), self.scene.house().mark(0)),
                         (((1, 2), ((row(1), row(2)),)), (1, 2)))

    def test_letters_are_brought_and_carried_as_they_stand(self):
        self.begin(GIVE, WATCH, put(1), ("beat", 0), put(2), ("beat", 0))
        self.scene.rounds(1)
        self.assertEqual(self.scene.glass(0)[0], (0, 2))
        self.begin(GIVE, WATCH, ("say", 0), ("cut", 0), ("say", 0), ("cut", 0), ("say", 0), room=4)
        self.scene.rounds(1)
        self.assertEqual(self.scene.house().mark(0), (2, -1))

    def test_it_is_as_the_entries_one_by_one(self):
        script = (GIVE, WATCH, ("watch", "bo", (AA,)), WATCH, put(1, 2), ("beat", 2), ("say", 0), ("cut", 2),
                  ("end", 1))
        self.begin(*script)
        other = Scene(PLAN)
        other.walk(script)
        for _ in range(3):
            self.scene.rounds(1)
            for entry in (("beat", 0), ("beat", 2)):
                other.step(entry)
            for word, asked in (("bring", other.road), ("say", None), ("carry", other.back)):
                for w in (0, 2):
                    if asked is None:
                        other.step((word, w))
                    while asked is not None and asked(w):
                        other.step((word, w, 0))
            self.assertEqual(told(self.scene), told(other))
        self.scene.rounds(2)
        self.assertEqual(told(self.scene), told(other))


class Stays(Scenes):
    def test_what_is_handed_in_stays(self):
        script = (GIVE, WATCH, put(1), ("beat", 0), ("torn", put(2), 3), ("turn", 2), ("fold",), ("fall",))
        held = copied((PLAN, script))
        self.begin(*script)
        self.assertEqual((PLAN, script), held)

    def test_what_was_told_stays(self):
        self.begin(GIVE, WATCH, put(1), ("beat", 0))
        found = (self.scene.glass(0), self.scene.road(0), self.scene.back(0), told(self.scene))
        held = copied(found)
        self.scene.walk((("bring", 0, 0), ("say", 0), put(2), ("end", 0)))
        self.assertEqual(found, held)

    def test_two_are_each_their_own(self):
        self.begin(GIVE, WATCH, put(1))
        other = Scene(PLAN)
        self.assertEqual(other.house().watchers(), ())
        self.assertRaises(NoWatcher, other.glass, 0)


if __name__ == "__main__":
    unittest.main()
