"""[20], [21] What a house sends and hears; [4](c), (d), (f) of its letters."""

import random
import unittest

from standviews.bags import changed
from standviews.errors import NoWatcher
from standviews.glasses import Glass
from standviews.houses import House
from tests.things import Row, Text, Whole, anything, copied, is_plain, spoilt

PLAN = (
    ("aa", (("k", "number"), ("s", "name"))),
    ("bb", (("id", "name"),)),
)
AA, BB = ("all", "aa"), ("all", "bb")
ALL = (None, ("k", "s"))
NOTHING = ((), ())


def row(k):
    return (k, "a")


def put(*keys):
    return tuple(("put", "aa", row(k)) for k in keys)


def drop(*keys):
    return tuple(("drop", "aa", k) for k in keys)


class Letters(unittest.TestCase):
    def begin(self, *questions, many=1, **kept):
        """A house with so many watchers of these questions, of a person who sees all of aa."""
        self.house = House(PLAN, **kept)
        self.house.right("ann", "aa", ALL)
        for _ in range(many):
            self.house.watch("ann", questions or (AA,))

    def has(self, k, *, w=0, life=0):
        self.assertIs(self.house.heard(("have", w, life, k)), True)

    def sends(self, letter, w=0):
        self.assertEqual(self.house.beat(w), letter)
        self.assertTrue(is_plain(self.house.beat(w)))


class Beats(Letters):
    def test_of_one_that_has_heard_nothing(self):
        self.begin()
        self.assertEqual(self.house.mark(0), (0, -1))
        self.sends(("whole", 0, 0, 0, ((),)))
        self.house.deal(put(1))
        self.sends(("whole", 0, 0, 1, ((row(1),),)))
        self.house.deal(put(2))
        self.sends(("whole", 0, 0, 2, ((row(1), row(2)),)))

    def test_of_one_that_has_the_newest(self):
        self.begin()
        self.has(0)
        self.sends(None)
        self.house.deal(put(1))
        self.has(1)
        self.sends(None)
        self.house.deal(())
        self.sends(None)

    def test_of_one_that_lags_behind(self):
        self.begin()
        self.house.deal(put(1, 2, 3))
        self.has(1)
        self.house.deal(put(4))
        self.sends(("change", 0, 0, 1, 2, (((), (row(4),)),)))
        self.house.deal(put(5) + drop(1))
        self.sends(("change", 0, 0, 1, 3, (((row(1),), (row(4), row(5))),)))
        self.has(2)
        self.sends(("change", 0, 0, 2, 3, (((row(1),), (row(5),)),)))

    def test_a_change_that_leads_to_the_same_answers(self):
        self.begin()
        self.house.deal(put(1))
        self.has(1)
        self.house.deal(drop(1))
        self.house.deal(put(1))
        self.sends(("change", 0, 0, 1, 3, (NOTHING,)))

    def test_to_no_rows_at_all_only_a_change_of_none_is_sent(self):
        self.begin()
        self.has(0)
        self.house.deal(put(1))
        self.house.deal(drop(1))
        self.sends(("change", 0, 0, 0, 2, (NOTHING,)))
        self.house.deal(put(1))
        self.has(3)
        self.house.deal(drop(1))
        self.sends(("whole", 0, 0, 4, ((),)))

    def test_just_as_many_as_are_kept_and_one_more(self):
        for kept in (0, 1, 2, 3, 8):
            self.begin(kept=kept)
            self.house.deal(put(*range(100, 120)))
            self.has(1)
            for k in range(kept):
                self.house.deal(put(k))
                self.sends(("change", 0, 0, 1, k + 2, (((), tuple(row(j) for j in range(k + 1))),)))
            self.house.deal(put(99))
            bag = tuple(row(j) for j in [*range(kept), *range(99, 120)])
            self.sends(("whole", 0, 0, kept + 2, (bag,)))

    def test_where_none_is_kept_all_are_wholes(self):
        self.begin(kept=0)
        self.house.deal(put(1, 2, 3))
        self.has(1)
        self.sends(None)
        self.house.deal(put(4))
        self.sends(("whole", 0, 0, 2, ((row(1), row(2), row(3), row(4)),)))

    def test_a_change_with_as_many_rows_as_the_whole_and_with_one_more(self):
        self.begin()
        self.house.deal(put(1, 2, 3, 4))
        self.has(1)
        self.house.deal(put(5, 6) + drop(1))
        self.house.deal(drop(2))
        self.sends(("change", 0, 0, 1, 3, (((row(1), row(2)), (row(5), row(6))),)))
        self.house.deal(drop(3))
        self.sends(("whole", 0, 0, 4, ((row(4), row(5), row(6)),)))
        self.house.deal(put(3))
        self.sends(("change", 0, 0, 1, 5, (((row(1), row(2)), (row(5), row(6))),)))

    def test_the_rows_of_all_questions_are_counted_together(self):
        self.begin(AA, ("where", ("below", "k", 3), AA))
        self.house.deal(put(1, 5))
        self.has(1)
        self.house.deal(put(2))
        self.sends(("change", 0, 0, 1, 2, (((), (row(2),)), ((), (row(2),)))))
        self.house.deal(drop(5))
        self.sends(("change", 0, 0, 1, 3, (((row(5),), (row(2),)), ((), (row(2),)))))
        self.house.deal(drop(1))
        self.sends(("whole", 0, 0, 4, ((row(2),), (row(2),))))

    def test_rows_are_counted_as_many_as_there_are(self):
        self.begin(("pick", ("s",), AA))
        self.house.deal(put(1, 2))
        self.has(1)
        self.house.deal(put(3, 4))
        self.sends(("change", 0, 0, 1, 2, (((), (("a",), ("a",))),)))
        self.house.deal(put(5, 6, 7))
        self.sends(("change", 0, 0, 1, 3, (((), (("a",),) * 5),)))
        self.house.deal(drop(1, 2, 3, 4, 5, 6))
        self.sends(("change", 0, 0, 1, 4, (((("a",),), ()),)))

    def test_of_the_life_that_was_heard(self):
        self.begin()
        self.house.deal(put(1, 2))
        self.has(-1, life=3)
        self.sends(("whole", 0, 3, 1, ((row(1), row(2)),)))
        self.has(1, life=3)
        self.house.deal(put(3))
        self.sends(("change", 0, 3, 1, 2, (((), (row(3),)),)))
        self.has(-1, life=4)
        self.sends(("whole", 0, 4, 2, ((row(1), row(2), row(3)),)))

    def test_a_right_makes_letters_too(self):
        self.begin()
        self.house.deal(put(1, 2))
        self.has(1)
        self.house.right("ann", "aa", (("is", "k", 2), ("k", "s")))
        self.sends(("change", 0, 0, 1, 2, (((row(1),), ()),)))
        self.house.right("ann", "aa", None)
        self.sends(("whole", 0, 0, 3, ((),)))

    def test_a_beat_changes_nothing(self):
        self.begin(many=2)
        self.house.deal(put(1))
        for _ in range(3):
            self.sends(("whole", 1, 0, 1, ((row(1),),)), w=1)
        self.assertEqual((self.house.mark(0), self.house.mark(1)), ((0, -1), (0, -1)))

    def test_each_watcher_has_its_own_number_and_its_own_line(self):
        self.begin()
        self.house.deal(put(1))
        self.house.watch("ann", (AA,))
        self.sends(("whole", 0, 0, 1, ((row(1),),)))
        self.sends(("whole", 1, 0, 0, ((row(1),),)), w=1)


class Hearing(Letters):
    def setUp(self):
        self.begin(many=2)
        self.house.deal(put(1))
        self.house.deal(put(2))

    def leaves(self, letter):
        held = [(self.house.mark(w), self.house.beat(w)) for w, _, _ in self.house.watchers()]
        self.assertIs(self.house.heard(letter), False)
        self.assertEqual([(self.house.mark(w), self.house.beat(w)) for w, _, _ in self.house.watchers()], held)

    def test_a_mark_above_is_heard(self):
        for life, k in ((0, 0), (0, 1), (0, 2), (1, -1), (1, 0), (1, 2), (2, 1), (5, -1)):
            self.has(k, life=life)
            self.assertEqual((self.house.mark(0), self.house.mark(1)), ((life, k), (0, -1)))
            self.assertTrue(is_plain(self.house.mark(0)))

    def test_the_same_mark_or_an_elder_one_is_left(self):
        self.leaves(("have", 0, 0, -1))
        self.has(1)
        for k in (1, 0, -1):
            self.leaves(("have", 0, 0, k))
        self.has(0, life=2)
        for life, k in ((2, 0), (2, -1), (1, 2), (1, -1), (0, 2)):
            self.leaves(("have", 0, life, k))
        self.assertEqual(self.house.mark(0), (2, 0))

    def test_k_from_minus_one_to_the_newest(self):
        for k in (-2, 3, 4, 10 ** 9, -10 ** 9):
            for life in (0, 1, 7):
                self.leaves(("have", 0, life, k))
        self.has(2)
        self.house.deal(put(3))
        self.has(3)

    def test_a_life_below_nought(self):
        self.leaves(("have", 0, -1, 2))
        self.leaves(("have", 0, -1, -1))

    def test_of_one_that_watches_not(self):
        for w in (2, -1, 10 ** 9):
            self.leaves(("have", w, 0, 0))
        self.house.end(0)
        self.leaves(("have", 0, 0, 0))
        self.leaves(("have", 0, 1, -1))
        self.has(0, w=1)

    def test_other_letters(self):
        self.leaves(self.house.beat(0))
        self.has(1)
        self.leaves(self.house.beat(0))
        self.leaves(("have", 0, 0))
        self.leaves(("have", 0, 0, 2, 0))
        self.leaves(("has", 0, 0, 2))
        self.leaves(["have", 0, 0, 2])
        self.leaves(Row(("have", 0, 0, 2)))
        self.leaves((Text("have"), 0, 0, 2))
        self.leaves(("have", 0, 0, Whole(2)))
        self.leaves(("have", 0, 0, True))
        self.leaves(("have", 0, True, 2))
        self.leaves(("have", False, 1, 2))
        self.leaves(("have", 0, 1, 2.0))

    def test_of_anything(self):
        for thing in anything():
            self.leaves(thing)
            for letter in ((thing, 0, 0, 0), ("have", thing, 0, 0), ("have", 0, 0, thing)):
                self.leaves(letter)
            if type(thing) is not int:
                self.leaves(("have", 0, thing, 0))

    def test_spoilt_in_any_place(self):
        for how, where, thing in spoilt(("have", 0, 1, 2)):
            with self.subTest((how, where)):
                self.leaves(thing)

    def test_behind_a_right_or_a_dealing_it_has_what_it_had(self):
        self.has(2)
        self.house.deal(put(3))
        self.house.right("ann", "aa", None)
        self.assertEqual(self.house.mark(0), (0, 2))

    def test_a_fold_leaves_what_was_heard(self):
        self.has(1, life=2)
        held = [(self.house.mark(w), self.house.beat(w)) for w in (0, 1)]
        self.house.fold()
        self.assertEqual([(self.house.mark(w), self.house.beat(w)) for w in (0, 1)], held)

    def test_mark_and_beat_of_what_watches_not(self):
        for thing in anything() + [2, -1, True, False]:
            for method in (self.house.mark, self.house.beat):
                with self.assertRaises(NoWatcher) as caught:
                    method(thing)
                self.assertIs(caught.exception.w, thing)

    def test_what_is_handed_in_stays(self):
        letter = ("have", 0, 0, 1)
        held = copied(letter)
        self.house.heard(letter)
        self.assertEqual(letter, held)


class Turns(Letters):
    def turns(self, load, *numbers):
        held = [self.house.beat(w) for w in numbers]
        told = self.house.turn(load)
        self.assertEqual(told, tuple(zip(numbers, held)))
        self.assertTrue(is_plain(told))

    def test_of_one_by_one(self):
        self.begin(many=3)
        for w in (0, 1, 2, 0, 1, 2, 0):
            self.turns(1, w)

    def test_of_several(self):
        self.begin(many=5)
        self.turns(2, 0, 1)
        self.turns(2, 2, 3)
        self.turns(2, 4, 0)
        self.turns(3, 1, 2, 3)
        self.turns(4, 4, 0, 1, 2)

    def test_of_as_many_as_watch_and_of_more(self):
        self.begin(many=3)
        self.turns(3, 0, 1, 2)
        self.turns(3, 0, 1, 2)
        self.turns(4, 0, 1, 2)
        self.turns(1, 0)
        self.turns(3, 1, 2, 0)
        self.turns(10 ** 12, 1, 2, 0)
        self.turns(1, 1)

    def test_of_none_who_watch(self):
        self.begin(many=0)
        self.assertEqual(self.house.turn(1), ())
        self.assertEqual(self.house.turn(9), ())
        self.house.watch("ann", (AA,))
        self.turns(1, 0)

    def test_the_letters_are_those_of_the_beats(self):
        self.begin(many=3)
        self.house.deal(put(1, 2))
        self.has(1, w=0)
        self.has(0, w=1)
        self.house.deal(put(3))
        self.has(2, w=2)
        self.assertEqual(self.house.turn(3), (
            (0, ("change", 0, 0, 1, 2, (((), (row(3),)),))),
            (1, ("change", 1, 0, 0, 2, (((), (row(1), row(2), row(3))),))),
            (2, None)))

    def test_those_that_want_nothing_have_their_turn_too(self):
        self.begin(many=3)
        for w in range(3):
            self.has(0, w=w)
        self.assertEqual(self.house.turn(2), ((0, None), (1, None)))
        self.assertEqual(self.house.turn(2), ((2, None), (0, None)))

    def test_watchers_that_end_between(self):
        self.begin(many=5)
        self.turns(2, 0, 1)
        self.house.end(1)
        self.turns(1, 2)
        self.house.end(3)
        self.turns(2, 4, 0)
        self.house.end(0)
        self.turns(9, 2, 4)
        self.house.end(4)
        self.turns(1, 2)
        self.house.end(2)
        self.turns(1)

    def test_the_last_one_ends(self):
        self.begin(many=3)
        self.turns(3, 0, 1, 2)
        self.house.end(2)
        self.turns(1, 0)
        self.turns(1, 1)
        self.house.end(1)
        self.turns(1, 0)

    def test_watchers_that_come_between(self):
        self.begin(many=2)
        self.turns(1, 0)
        self.house.watch("ann", (AA,))
        self.turns(1, 1)
        self.turns(1, 2)
        self.house.watch("ann", (AA,))
        self.turns(2, 3, 0)

    def test_all_ended_and_another_comes(self):
        self.begin(many=2)
        self.turns(2, 0, 1)
        self.house.end(0)
        self.house.end(1)
        self.turns(1)
        self.house.watch("ann", (AA,))
        self.house.watch("ann", (AA,))
        self.turns(1, 2)
        self.turns(1, 3)

    def test_a_fold_leaves_whose_turn_it_is(self):
        self.begin(many=3)
        self.turns(2, 0, 1)
        self.house.fold()
        self.turns(2, 2, 0)

    def test_each_has_its_beat_in_as_many_turns_as_told(self):
        for many in range(1, 8):
            for load in range(1, 9):
                self.begin(many=many)
                for ahead in range(3):
                    self.house.turn(ahead + 1)
                    for _ in range(3):
                        due = [w for _ in range(-(-many // load)) for w, _ in self.house.turn(load)]
                        self.assertEqual(set(due), set(range(many)))

    def test_what_it_tells_is_heard(self):
        self.begin(many=2)
        self.house.deal(put(1))
        for w, letter in self.house.turn(2):
            self.assertIs(Glass(PLAN, w, (AA,)).hear(letter), True)


class Promised(unittest.TestCase):
    """[4](d), and that letters hang on nothing but the line and what was heard."""

    def letters(self, chance, house, w):
        for life, k in ((0, -1), *[(1, k) for k in range(house.line(w)[0] + 1)]):
            house.heard(("have", w, life, k))
            yield k, house.beat(w)

    def test_letters_bear_rows_of_the_newest_answers_alone_and_no_more_than_the_whole(self):
        chance = random.Random(20)
        for _ in range(40):
            house = House(PLAN, kept=chance.choice((0, 1, 4, 8)))
            house.right("ann", "aa", ALL)
            house.watch("ann", (AA, ("pick", ("s",), AA)))
            held = [house.line(0)[1]]
            for _ in range(12):
                keys = [each[0] for each in house.store()[0]]
                drops = drop(*[k for k in keys if not chance.randrange(4)])
                house.deal(drops + put(*[chance.randrange(9) for _ in range(chance.randrange(3))]))
                if house.line(0)[0] == len(held):
                    held.append(house.line(0)[1])
            for k, letter in self.letters(chance, house, 0):
                self.check(house.line(0), held, k, letter)

    def check(self, line, held, k, letter):
        newest, bags, moments = line
        if k == newest:
            self.assertIsNone(letter)
            return
        if letter[0] == "whole":
            self.assertEqual(letter[3:], (newest, bags))
            return
        self.assertEqual(letter[3:5], (k, newest))
        self.assertGreaterEqual(k, moments[0][0])
        self.assertEqual(tuple(changed(bag, change) for bag, change in zip(held[k], letter[5])), bags)
        for (gone, come), bag in zip(letter[5], bags):
            self.assertLessEqual(set(come), set(bag))
        self.assertLessEqual(sum(len(gone + come) for gone, come in letter[5]), sum(map(len, bags)))

    def test_what_a_person_does_not_see_changes_no_letter(self):
        one, other = House(PLAN), House(PLAN)
        for house in (one, other):
            house.right("ann", "aa", (("below", "k", 10), ("k",)))
            house.watch("ann", (AA,))
        other.right("bo", "aa", ALL)
        other.watch("bo", (AA, ("once", AA)))
        for k in range(12):
            one.deal(put(k % 7) + drop(k % 7)[:k % 2])
            other.deal((("put", "aa", (k + 20, "z")),))
            other.deal((("put", "aa", (k % 7, "b")), ("put", "bb", ("x",))) + drop(k % 7)[:k % 2])
            other.right("bo", "aa", None)
            self.assertEqual(one.beat(0), other.beat(0))
            for house in (one, other):
                house.heard(("have", 0, k // 5, house.line(0)[0] - k % 3))
            self.assertEqual((one.beat(0), one.mark(0)), (other.beat(0), other.mark(0)))


if __name__ == "__main__":
    unittest.main()
