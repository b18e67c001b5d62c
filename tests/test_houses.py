"""[18], [19] The house: dealings, rights, watchers, lines and works; [2], [4](e)."""

import random
import unittest

from standviews.answers import answer
from standviews.errors import NoDeal, NoPerson, NoPlan, NoQuestion, NoRight, NoWatcher
from standviews.houses import House
from standviews.rights import seen
from tests import making, plain, plain_house
from tests.things import Row, Text, anything, copied, is_plain, spoilt

PLAN = (
    ("aa", (("k", "number"), ("s", "name"), ("n", "number"))),
    ("bb", (("id", "name"), ("m", "number"))),
)
AA, BB = ("all", "aa"), ("all", "bb")
ALL = (None, ("k", "s", "n"))
ALL_BB = (None, ("id", "m"))
A, B, C = (1, "a", 5), (2, "b", 6), (3, None, None)
NOTHING = ((), ())


def puts(*rows, table="aa"):
    return tuple(("put", table, row) for row in rows)


def everything(house):
    """All that a house of these tests tells."""
    numbers = [w for w, _, _ in house.watchers()]
    return (house.moment(), house.store(), house.watchers(), house.works(), house.total(), house.written(),
            house.begun(), [house.past(moment) for moment in range(house.begun(), house.moment() + 1)],
            [house.rights(person) for person in ("ann", "bo", "cy")],
            [(house.line(w), house.mark(w), house.beat(w)) for w in numbers])


class Houses(unittest.TestCase):
    def setUp(self):
        self.house = House(PLAN)

    def refuses(self, error, method, *told):
        held = everything(self.house)
        with self.assertRaises(error) as caught:
            getattr(self.house, method)(*told)
        self.assertEqual(everything(self.house), held)
        return caught.exception

    def answers(self, w):
        """The newest of the line of w, held against the answers over what is seen."""
        number, bags, moments = self.house.line(w)
        person, questions = [(person, questions) for v, person, questions in self.house.watchers() if v == w][0]
        told = seen(PLAN, self.house.store(), self.house.rights(person))
        self.assertEqual(bags, tuple(plain.bag(answer(PLAN, question, told)) for question in questions))
        self.assertEqual(moments[-1][0], number)
        return number, bags

    def worked(self):
        """How often each kept piece was worked, those that see by their tables and rights."""
        return {piece: many for piece, many in self.house.works()}


class Beginning(Houses):
    def test_of_no_plan(self):
        for thing in anything() + [list(PLAN), PLAN[::-1], (PLAN[0], PLAN[0]), Row(PLAN)]:
            self.assertRaises(NoPlan, House, thing)
        for how, where, thing in spoilt(PLAN):
            with self.subTest((how, where)):
                self.assertRaises(NoPlan, House, thing)

    def test_it_is_at_moment_nought_and_empty(self):
        self.assertEqual((self.house.moment(), self.house.store(), self.house.watchers()), (0, ((), ()), ()))
        self.assertEqual((self.house.works(), self.house.total()), ((), 0))
        self.assertIs(type(self.house.moment()), int)

    def test_kept_is_handed_in_by_its_name_alone(self):
        self.assertRaises(TypeError, House, PLAN, 3)
        self.assertEqual(House(PLAN, kept=0).moment(), 0)

    def test_two_are_each_their_own(self):
        other = House(PLAN)
        self.house.right("ann", "aa", ALL)
        self.house.watch("ann", (AA,))
        self.house.deal(puts(A))
        self.assertEqual(everything(other), everything(House(PLAN)))


class Dealings(Houses):
    def test_the_store_is_that_and_the_moment_is_one_more_and_told(self):
        self.assertEqual(self.house.deal(puts(B, A)), 1)
        self.assertEqual((self.house.moment(), self.house.store()), (1, ((A, B), ())))
        self.assertEqual(self.house.deal((("drop", "aa", 1),) + puts(("x", 1), table="bb")), 2)
        self.assertEqual((self.house.moment(), self.house.store()), (2, ((B,), (("x", 1),))))
        self.assertIs(type(self.house.deal(())), int)

    def test_of_nothing(self):
        self.house.right("ann", "aa", ALL)
        self.house.watch("ann", (AA,))
        self.assertEqual(self.house.deal(()), 2)
        self.assertEqual(self.house.deal(()), 3)
        self.assertEqual((self.house.store(), self.house.total()), (((), ()), 0))
        self.assertEqual(self.house.line(0), (0, ((),), ((0, 1),)))

    def test_one_that_leaves_all_as_it_is(self):
        self.house.right("ann", "aa", ALL)
        self.house.watch("ann", (AA,))
        self.house.deal(puts(A))
        self.assertEqual(self.house.deal(puts(A)), 3)
        self.assertEqual((self.house.line(0), self.house.total()), ((1, ((A,),), ((0, 1), (1, 2))), 1))

    def test_refused_at_its_first_change_that_can_not_be_done(self):
        self.house.right("ann", "aa", ALL)
        self.house.watch("ann", (AA,))
        self.house.deal(puts(A))
        for at, dealing in ((0, (("drop", "aa", 9),)), (1, puts(B, (None, "a", 1))), (2, puts(B, C) + ((),)),
                            (1, puts(B) + puts(A, table="zz")), (1, (("drop", "aa", 1), ("drop", "aa", 1))),
                            (None, list(puts(B))), (None, None)):
            refused = self.refuses(NoDeal, "deal", dealing)
            self.assertEqual((refused.at, type(refused.at)), (at, type(at)))

    def test_refused_of_anything(self):
        self.house.right("ann", "aa", ALL)
        self.house.watch("ann", (AA,))
        self.house.deal(puts(A))
        for thing in anything():
            if thing.__class__ is not tuple:
                self.assertIsNone(self.refuses(NoDeal, "deal", thing).at)
            elif len(thing):
                self.assertEqual(self.refuses(NoDeal, "deal", thing).at, 0)
            self.assertEqual(self.refuses(NoDeal, "deal", puts(B) + (thing,)).at, 1)

    def test_refused_spoilt_in_any_place(self):
        dealing = (("put", "aa", (2, "b", 1)), ("drop", "aa", 2))
        self.house.deal(dealing)
        for how, where, thing in spoilt(dealing):
            with self.subTest((how, where)):
                self.refuses(NoDeal, "deal", thing)


class Rights(Houses):
    def test_at_first_none_are_given(self):
        for person in ("ann", "bo", "a", "abcdefgh"):
            self.assertEqual(self.house.rights(person), (None, None))
        self.assertEqual(self.house.past(0), (((), ()), ()))

    def test_each_is_of_a_person_and_a_table(self):
        self.assertEqual(self.house.right("ann", "bb", ALL_BB), 1)
        self.assertEqual(self.house.right("bo", "aa", (("is", "k", 1), ())), 2)
        self.assertEqual(self.house.right("ann", "aa", ALL), 3)
        self.assertEqual(self.house.rights("ann"), (ALL, ALL_BB))
        self.assertEqual(self.house.rights("bo"), ((("is", "k", 1), ()), None))
        self.assertEqual(self.house.right("ann", "bb", None), 4)
        self.assertEqual((self.house.rights("ann"), self.house.moment()), ((ALL, None), 4))
        self.assertTrue(is_plain((self.house.rights("ann"), self.house.rights("cy"))))

    def test_one_given_again_as_it_is(self):
        self.house.right("ann", "aa", ALL)
        self.house.watch("ann", (AA, ("once", AA)))
        self.house.deal(puts(A))
        held = (self.house.line(0), self.house.works(), self.house.total(), self.house.beat(0))
        self.assertEqual(self.house.right("ann", "aa", ALL), 3)
        self.assertEqual((self.house.line(0), self.house.works(), self.house.total(), self.house.beat(0)), held)
        self.assertEqual([many for _, many in self.house.works()], [1, 1])
        self.house.deal(puts(B))
        self.assertEqual([many for _, many in self.house.works()], [2, 2])

    def test_one_that_hides_what_a_question_has(self):
        self.house.deal(puts(A, B))
        self.house.right("ann", "aa", ALL)
        self.house.watch("ann", (AA, ("pick", ("s",), AA)))
        self.assertEqual(self.answers(0), (0, ((A, B), (("a",), ("b",)))))
        self.house.right("ann", "aa", (None, ("k", "n")))
        self.assertEqual(self.answers(0), (1, (((1, None, 5), (2, None, 6)), ((None,), (None,)))))
        self.house.right("ann", "aa", (("below", "n", 6), ("k", "n")))
        self.assertEqual(self.answers(0), (2, (((1, None, 5),), ((None,),))))
        self.house.right("ann", "aa", None)
        self.assertEqual(self.answers(0), (3, ((), ())))
        self.house.right("ann", "aa", ALL)
        self.assertEqual(self.answers(0), (4, ((A, B), (("a",), ("b",)))))
        self.assertEqual(self.house.line(0)[2], ((0, 2), (1, 3), (2, 4), (3, 5), (4, 6)))

    def test_the_check_looks_at_what_the_right_hides(self):
        self.house.deal(puts(A, B))
        self.house.right("ann", "aa", (("is", "s", "a"), ("k",)))
        self.house.watch("ann", (AA,))
        self.assertEqual(self.answers(0), (0, (((1, None, None),),)))
        self.house.deal(puts((1, "b", 5), (2, "a", 6)))
        self.assertEqual(self.answers(0), (1, (((2, None, None),),)))

    def test_of_another_table_or_another_person_it_changes_no_line(self):
        self.house.deal(puts(A) + puts(("x", 1), table="bb"))
        self.house.right("ann", "aa", ALL)
        self.house.watch("ann", (AA,))
        self.house.watch("bo", (AA, BB))
        self.house.right("ann", "bb", ALL_BB)
        self.house.right("cy", "aa", ALL)
        self.assertEqual((self.house.line(0), self.house.line(1)),
                         ((0, ((A,),), ((0, 2),)), (0, ((), ()), ((0, 2),))))
        self.house.right("bo", "aa", ALL)
        self.assertEqual((self.house.line(0), self.house.line(1)),
                         ((0, ((A,),), ((0, 2),)), (1, ((A,), ()), ((0, 2), (1, 5)))))

    def test_all_watchers_of_the_person_go_on(self):
        self.house.deal(puts(A))
        for _ in range(3):
            self.house.watch("ann", (AA,))
        self.house.right("ann", "aa", ALL)
        for w in range(3):
            self.assertEqual(self.house.line(w), (1, ((A,),), ((0, 1), (1, 2))))

    def test_one_that_hides_nothing_of_the_answers_leaves_the_line(self):
        self.house.deal(puts(A, B))
        self.house.right("ann", "aa", ALL)
        self.house.watch("ann", (("pick", ("k",), AA),))
        self.house.right("ann", "aa", (None, ("k",)))
        self.assertEqual(self.answers(0), (0, (((1,), (2,)),)))
        self.assertEqual([piece for piece, _ in self.house.works()],
                         [("pick", ("k",), ("see", "aa", (None, ("k",)))), ("see", "aa", (None, ("k",)))])

    def test_refused_of_no_person_ahead_of_no_right(self):
        for thing in anything():
            for table, right in (("aa", None), ("aa", 5), ("zz", None), (thing, thing)):
                self.assertIs(self.refuses(NoPerson, "right", thing, table, right).person, thing)
        for thing in ("", "abcdefghi", "Ann", "a1", Text("ann"), b"ann", ("ann",)):
            self.assertIs(self.refuses(NoPerson, "right", thing, "aa", None).person, thing)

    def test_refused_of_no_right(self):
        self.house.right("ann", "aa", ALL)
        self.house.watch("ann", (AA,))
        for table, right in (("zz", None), ("zz", ALL), ("aa", ALL_BB), ("aa", ()), ("aa", (None, ("n", "k"))),
                             ("aa", (None, ("k", "k"))), ("aa", (("is", "z", 1), ())), ("aa", [None, ()]),
                             ("aa", (("is", "k", "a"), ())), (Text("aa"), None), ("aa", "none")):
            self.refuses(NoRight, "right", "ann", table, right)
            self.refuses(NoRight, "right", "cy", table, right)
        for thing in anything():
            self.refuses(NoRight, "right", "ann", thing, None)
            if thing is not None:
                self.refuses(NoRight, "right", "ann", "aa", thing)
                self.refuses(NoRight, "right", "ann", "aa", (thing, ()))
            if type(thing) is not tuple or len(thing):
                self.refuses(NoRight, "right", "ann", "aa", (None, thing))

    def test_rights_of_no_person(self):
        for thing in anything() + ["", "Ann", Text("ann")]:
            self.assertIs(self.refuses(NoPerson, "rights", thing).person, thing)


class Watching(Houses):
    def test_each_is_told_by_its_number(self):
        self.assertEqual([self.house.watch(person, (AA,)) for person in ("ann", "bo", "ann")], [0, 1, 2])
        self.assertIs(type(self.house.watch("ann", (AA,))), int)
        self.assertEqual(self.house.moment(), 0)

    def test_numbers_are_never_told_again(self):
        self.house.watch("ann", (AA,))
        self.house.watch("ann", (AA,))
        self.house.end(1)
        self.assertEqual(self.house.watch("ann", (AA,)), 2)
        self.house.end(0)
        self.house.end(2)
        self.assertEqual(self.house.watch("ann", (AA,)), 3)

    def test_watchers_are_those_that_watch_rising(self):
        self.house.watch("bo", (AA, BB))
        self.house.watch("ann", (("once", AA),))
        self.house.watch("ann", (BB,))
        self.assertEqual(self.house.watchers(),
                         ((0, "bo", (AA, BB)), (1, "ann", (("once", AA),)), (2, "ann", (BB,))))
        self.house.end(1)
        self.assertEqual(self.house.watchers(), ((0, "bo", (AA, BB)), (2, "ann", (BB,))))
        self.assertTrue(is_plain(self.house.watchers()))

    def test_the_line_begins_by_the_answers_of_now(self):
        self.house.right("ann", "aa", ALL)
        self.house.deal(puts(B, A))
        self.house.watch("ann", (AA, ("first", 1, (("k", "down"),), AA)))
        self.assertEqual(self.house.line(0), (0, ((A, B), (B,)), ((0, 2),)))
        self.assertTrue(is_plain(self.house.line(0)))
        self.house.deal(puts(C))
        self.house.watch("ann", (AA,))
        self.assertEqual(self.house.line(1), (0, ((A, B, C),), ((0, 3),)))
        self.assertEqual(self.house.line(0), (1, ((A, B, C), (C,)), ((0, 2), (1, 3))))

    def test_the_answers_of_a_line_are_bags_of_a_first_too(self):
        self.house.right("ann", "aa", ALL)
        self.house.deal(puts(A, B, C))
        self.house.watch("ann", (("first", 2, (("k", "down"),), AA),))
        self.assertEqual(self.house.line(0)[1], ((B, C),))

    def test_one_two_and_three_questions_alike_ones_too(self):
        for questions in ((AA,), (AA, AA), (AA, BB, AA)):
            w = self.house.watch("ann", questions)
            self.assertEqual(self.house.line(w)[1], ((),) * len(questions))
        self.house.right("ann", "aa", ALL)
        self.house.deal(puts(A))
        self.assertEqual(self.house.line(2)[1], ((A,), (), (A,)))

    def test_lines_take_the_changes_of_dealings(self):
        self.house.right("ann", "aa", ALL)
        self.house.watch("ann", (AA, ("sums", (), (("x", "sum", "n"),), AA)))
        for dealing, told in ((puts(A), (1, ((A,), ((5,),)))), (puts(B), (2, ((A, B), ((11,),)))),
                              (puts(("x", 1), table="bb"), (2, ((A, B), ((11,),)))),
                              ((("drop", "aa", 1),), (3, ((B,), ((6,),)))), ((), (3, ((B,), ((6,),)))),
                              ((("drop", "aa", 2),), (4, ((), ())))):
            self.house.deal(dealing)
            self.assertEqual(self.answers(0), told)
        self.assertEqual(self.house.line(0)[2], ((0, 1), (1, 2), (2, 3), (3, 5), (4, 7)))

    def test_no_more_changes_are_kept_than_told(self):
        for kept in (0, 1, 3, 8):
            house = House(PLAN, kept=kept)
            house.right("ann", "aa", ALL)
            house.watch("ann", (AA,))
            for k in range(12):
                house.deal(puts((k, None, None)))
                moments = house.line(0)[2]
                self.assertEqual(moments, tuple((n, n + 1) for n in range(max(0, k + 1 - kept), k + 2)))

    def test_two_persons_with_the_same_rights(self):
        for person in ("ann", "bo"):
            self.house.right(person, "aa", ALL)
            self.house.watch(person, (AA,))
        self.house.deal(puts(A))
        self.assertEqual(self.house.works(), ((("see", "aa", ALL), 1),))
        self.house.right("bo", "aa", (None, ("k",)))
        self.assertEqual(self.house.works(), ((("see", "aa", (None, ("k",))), 0), (("see", "aa", ALL), 1)))
        self.house.deal(puts(B))
        self.assertEqual(self.house.works(), ((("see", "aa", (None, ("k",))), 1), (("see", "aa", ALL), 2)))
        self.house.right("ann", "aa", (None, ("k",)))
        self.assertEqual((self.house.works(), self.house.total()), (((("see", "aa", (None, ("k",))), 1),), 3))
        self.assertEqual(self.house.line(0)[1], self.house.line(1)[1])

    def test_a_right_keeps_the_works_of_a_piece_that_goes_from_one_watcher_to_another(self):
        self.house.right("ann", "aa", ALL)
        self.house.right("bo", "aa", ALL)
        self.house.watch("ann", (("once", AA), BB))
        self.house.deal(puts(A))
        self.house.right("ann", "bb", ALL_BB)
        see = ("see", "aa", ALL)
        self.assertEqual(self.house.works(), ((("once", see), 1), (see, 1), (("see", "bb", ALL_BB), 0)))

    def test_refused_of_no_person_ahead_of_no_question(self):
        for thing in anything():
            for questions in ((AA,), (), thing):
                self.assertIs(self.refuses(NoPerson, "watch", thing, questions).person, thing)

    def test_refused_of_no_questions(self):
        see = ("see", "aa", ALL)
        for questions in ((), (AA,) * 4, [AA], Row((AA,)), AA, (AA, see), (see,), (("all", "zz"),), (AA, BB, None),
                          (AA, ["all", "aa"]), "all aa", ("all aa",), (("first", 0, (), AA),), ((AA,),)):
            self.refuses(NoQuestion, "watch", "ann", questions)
        for thing in anything():
            self.refuses(NoQuestion, "watch", "ann", thing)
            self.refuses(NoQuestion, "watch", "ann", (thing,))
            self.refuses(NoQuestion, "watch", "ann", (AA, thing))
            self.refuses(NoQuestion, "watch", "ann", (AA, BB, ("once", thing)))
        self.assertEqual(self.house.watch("ann", (AA,)), 0)

    def test_refused_spoilt_in_any_place(self):
        questions = (("where", ("is", "k", 1), AA), ("first", 2, (("s", "up"),), AA))
        for how, where, thing in spoilt(questions):
            with self.subTest((how, where)):
                self.refuses(NoQuestion, "watch", "ann", thing)


class Ending(Houses):
    def test_it_watches_no_more(self):
        self.house.watch("ann", (AA,))
        self.house.watch("bo", (AA,))
        self.assertIsNone(self.house.end(0))
        self.assertEqual(self.house.watchers(), ((1, "bo", (AA,)),))
        self.assertEqual(self.house.moment(), 0)
        for method in ("end", "line", "mark", "beat"):
            self.assertEqual(self.refuses(NoWatcher, method, 0).w, 0)
        self.house.right("ann", "aa", ALL)
        self.house.deal(puts(A))
        self.assertEqual(len(self.house.works()), 1)

    def test_a_piece_that_others_need_stays(self):
        self.house.right("ann", "aa", ALL)
        see = ("see", "aa", ALL)
        self.house.watch("ann", (("once", AA),))
        self.house.watch("ann", (("first", 2, (), ("once", AA)), AA))
        self.house.watch("ann", (AA, AA))
        self.house.deal(puts(A))
        first, once = ("first", 2, (), ("once", see)), ("once", see)
        self.assertEqual(self.house.works(), ((first, 1), (once, 1), (see, 1)))
        self.house.end(0)
        self.assertEqual(self.house.works(), ((first, 1), (once, 1), (see, 1)))
        self.house.deal(puts(B))
        self.house.end(1)
        self.assertEqual(self.house.works(), ((see, 2),))
        self.house.end(2)
        self.assertEqual((self.house.works(), self.house.total()), ((), 6))
        self.house.watch("ann", (AA,))
        self.assertEqual((self.house.works(), self.house.total()), (((see, 0),), 6))

    def test_refused_of_what_watches_not(self):
        self.house.watch("ann", (AA,))
        self.house.watch("ann", (AA,))
        self.house.end(0)
        for thing in anything() + [0, 2, -1, 10 ** 20, False, True, "1", (1,), 1.0]:
            for method in ("end", "line", "mark", "beat"):
                self.assertIs(self.refuses(NoWatcher, method, thing).w, thing)


class Works(Houses):
    """[4](e)"""

    def test_watchers_of_alike_questions_and_of_parts_of_one_another_s(self):
        self.house.right("ann", "aa", ALL)
        see = ("see", "aa", ALL)
        where = ("where", ("is", "s", "a"), AA)
        self.house.watch("ann", (("once", where),))
        self.house.deal(puts(A))
        self.assertEqual(self.house.total(), 3)
        for questions in ((("once", where),), (where,), (AA, where, AA)):
            self.house.watch("ann", questions)
            self.assertEqual(self.house.total(), 3)
        self.house.deal(puts((7, "a", 1)))
        self.assertEqual(self.house.total(), 6)
        self.house.deal(puts((8, "b", 1)))
        self.assertEqual(self.house.total(), 8)
        self.assertEqual(self.house.works(), ((("once", ("where", ("is", "s", "a"), see)), 2), (see, 3),
                                              (("where", ("is", "s", "a"), see), 3)))
        self.assertTrue(is_plain((self.house.works(), self.house.total())))

    def test_another_watcher_of_what_is_there_already_works_nothing_more(self):
        other = House(PLAN)
        for house, many in ((self.house, 1), (other, 4)):
            for person in ("ann", "bo"):
                house.right(person, "aa", ALL)
            for _ in range(many):
                house.watch("ann", (("once", AA), AA))
                house.watch("bo", (("once", AA),))
            for dealing in (puts(A), puts(B), (), puts(("x", 1), table="bb"), (("drop", "aa", 1),)):
                house.deal(dealing)
        self.assertEqual((self.house.works(), self.house.total()), (other.works(), other.total()))
        self.assertEqual(self.house.total(), 6)

    def test_a_table_that_nobody_sees_works_nothing(self):
        self.house.watch("ann", (AA,))
        self.house.deal(puts(("x", 1), table="bb"))
        self.assertEqual(self.house.total(), 0)
        self.house.deal(puts(A))
        self.assertEqual((self.house.works(), self.house.total()), (((("see", "aa", None), 1),), 1))

    def test_a_right_works_nothing(self):
        self.house.watch("ann", (AA, ("once", AA)))
        self.house.deal(puts(A))
        self.assertEqual(self.house.total(), 1)
        self.house.right("ann", "aa", ALL)
        self.house.right("ann", "aa", (None, ("k",)))
        self.assertEqual((self.house.total(), [many for _, many in self.house.works()]), (1, [0, 0]))


class Stays(Houses):
    def test_what_is_handed_in_stays(self):
        dealing, questions = puts(A, B), (("once", AA), ("first", 1, (("k", "up"),), AA))
        held = copied((PLAN, dealing, questions, ALL))
        self.house.right("ann", "aa", ALL)
        self.house.watch("ann", questions)
        self.house.deal(dealing)
        self.house.turn(2)
        self.house.fold()
        self.house.end(0)
        self.assertEqual((PLAN, dealing, questions, ALL), held)

    def test_what_was_told_stays_and_may_be_handed_in_again(self):
        self.house.right("ann", "aa", ALL)
        self.house.watch("ann", (AA,))
        told = everything(self.house)
        held = copied(told)
        other = House(PLAN)
        other.right("ann", "aa", self.house.rights("ann")[0])
        other.watch("ann", self.house.watchers()[0][2])
        self.house.deal(puts(A))
        self.house.end(0)
        self.assertEqual(told, held)
        self.assertEqual(everything(other), held)


class ByChance(unittest.TestCase):
    """Held against a plain house at each moment: lines against answers of what is seen, works against [13]."""

    def alike(self, house, model):
        self.assertEqual((house.moment(), house.store()), (model.moment, model.store))
        self.assertEqual(house.watchers(), model.told_watchers())
        for w in model.watchers:
            self.assertEqual(house.line(w), model.line(w))
            self.assertEqual((house.mark(w), house.beat(w)), (model.watchers[w].mark, model.beat(w)))
        self.assertEqual((house.works(), house.total()), (model.works(), model.total))

    def entry(self, chance, model, asked, given):
        word = chance.choice(("deal", "deal", "deal", "right", "watch", "watch", "end"))
        if word == "deal":
            changes = []
            for _ in range(chance.randrange(3)):
                table, columns = chance.choice(making.PLAN)
                changes.append(("put", table, making.row(chance, columns)))
            drops = [("drop", table, rows[0][0]) for (table, _), rows in zip(making.PLAN, model.store) if rows]
            if drops and chance.randrange(2):
                changes.insert(0, chance.choice(drops))
            return (word, tuple(changes))
        if word == "right":
            at = chance.randrange(len(making.PLAN))
            return (word, chance.choice(("ann", "bo")), making.PLAN[at][0], chance.choice(given)[at])
        if word == "end" and model.watchers:
            return (word, chance.choice(list(model.watchers)))
        return ("watch", chance.choice(("ann", "bo")), tuple(chance.choices(asked, k=chance.randrange(1, 4))))

    def test_scripts(self):
        for seed in range(40):
            chance = random.Random(seed)
            kept = chance.choice((0, 1, 2, 8))
            house, model = House(making.PLAN, kept=kept), plain_house.House(making.PLAN, kept)
            asked = [making.question(chance, 7) for _ in range(4)]
            given = [making.rights(chance) for _ in range(3)]
            for _ in range(30):
                entry = self.entry(chance, model, asked, given)
                self.assertEqual(getattr(house, entry[0])(*entry[1:]), model.do(entry))
                for w in model.watchers:
                    letter = ("have", w, 0, chance.randrange(-1, 6))
                    if not chance.randrange(3):
                        self.assertIs(house.heard(letter), model.heard(letter))
                self.alike(house, model)
            self.assertEqual(house.written(), model.text())
            for moment, told in model.past.items():
                self.assertEqual(house.past(moment), told)


if __name__ == "__main__":
    unittest.main()
