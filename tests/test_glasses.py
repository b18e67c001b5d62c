"""[15], [16] Marks, letters and glasses; [2] things of any kind, nothing handed in is changed."""

import re
import unittest

from standviews.glasses import Glass
from tests import plain
from tests.things import Row, Text, Whole, anything, copied, is_plain, shown, spoilt

PLAN = (("aa", (("k", "number"), ("s", "name"))), ("bb", (("id", "name"),)))
AA, BB = ("all", "aa"), ("all", "bb")
A, B, C, D = (1, "a"), (2, "b"), (3, None), (3, "c")
NOTHING = ((), ())


def whole(m, *bags, w=0, life=0):
    return ("whole", w, life, m, bags)


def change(k, m, *changes, w=0, life=0):
    return ("change", w, life, k, m, changes)


class Glasses(unittest.TestCase):
    def setUp(self):
        self.glass = Glass(PLAN, 0, (AA,))

    def has(self, mark, *rows):
        self.assertEqual((self.glass.mark(), self.glass.rows()), (mark, rows))
        self.assertEqual(self.glass.say(), ("have", 0) + mark)
        self.assertTrue(is_plain((self.glass.mark(), self.glass.rows(), self.glass.say())))

    def hears(self, letter):
        self.assertIs(self.glass.hear(letter), True)

    def leaves(self, letter):
        held = (self.glass.mark(), self.glass.rows())
        told = self.glass.hear(letter)
        if told is not False or (self.glass.mark(), self.glass.rows()) != held:
            self.fail(shown(letter))


class Beginning(Glasses):
    def test_it_holds_nothing(self):
        self.has((0, -1), ())

    def test_of_several_questions_it_holds_nothing_of_each(self):
        for many in (1, 2, 3):
            self.glass = Glass(PLAN, 0, (("first", 1, (), AA), BB, AA)[:many])
            self.has((0, -1), *[()] * many)

    def test_what_it_says_is_of_its_watcher(self):
        self.assertEqual(Glass(PLAN, 7, (AA,)).say(), ("have", 7, 0, -1))


class Wholes(Glasses):
    def test_the_first_is_taken_whatever_its_number_is(self):
        for m in (0, 1, 9, 10 ** 12):
            self.glass = Glass(PLAN, 0, (AA,))
            self.hears(whole(m, (A, B)))
            self.has((0, m), (A, B))

    def test_one_of_a_number_above_is_taken(self):
        self.hears(whole(3, (A, B)))
        self.hears(whole(4, (C,)))
        self.has((0, 4), (C,))
        self.hears(whole(9, ()))
        self.has((0, 9), ())

    def test_one_of_the_same_number_or_one_below_is_left(self):
        self.hears(whole(3, (A, B)))
        for m in (3, 2, 0):
            self.leaves(whole(m, (C,)))
        self.has((0, 3), (A, B))

    def test_one_of_nought_is_taken_once(self):
        self.hears(whole(0, (A,)))
        self.leaves(whole(0, (B,)))
        self.has((0, 0), (A,))


class Changes(Glasses):
    def test_one_that_goes_on_from_its_number_is_taken(self):
        self.hears(whole(3, (A, B)))
        self.hears(change(3, 4, ((A,), (C,))))
        self.has((0, 4), (B, C))
        self.hears(change(4, 8, ((), (A,))))
        self.has((0, 8), (A, B, C))

    def test_one_of_another_number_is_left(self):
        self.hears(whole(3, (A, B)))
        for k, m in ((2, 3), (2, 4), (4, 5), (0, 4), (0, 9), (-1, 4)):
            self.leaves(change(k, m, ((), (C,))))
        self.has((0, 3), (A, B))

    def test_one_is_left_while_nothing_is_held(self):
        for k, m in ((0, 1), (0, 0), (1, 2), (3, 9)):
            self.leaves(change(k, m, ((), (A,))))
        self.has((0, -1), ())

    def test_the_same_one_is_taken_once(self):
        self.hears(whole(0, ()))
        self.hears(change(0, 1, ((), (A,))))
        self.leaves(change(0, 1, ((), (A,))))
        self.has((0, 1), (A,))

    def test_one_that_changes_nothing_goes_on_too(self):
        self.hears(whole(0, (A,)))
        self.hears(change(0, 2, NOTHING))
        self.has((0, 2), (A,))

    def test_rows_as_many_of_each_as_there_are(self):
        self.hears(whole(0, (A, A)))
        self.hears(change(0, 1, ((A,), (B, B))))
        self.has((0, 1), (A, B, B))

    def test_several_questions_each_by_its_own(self):
        self.glass = Glass(PLAN, 0, (AA, BB, ("once", AA)))
        self.hears(whole(0, (A,), (("x",),), (A,)))
        self.has((0, 0), (A,), (("x",),), (A,))
        self.hears(change(0, 1, ((), (B,)), NOTHING, ((A,), ())))
        self.has((0, 1), (A, B), (("x",),), ())


class LeftLetters(Glasses):
    def test_of_another_watcher(self):
        self.hears(whole(3, (A,)))
        for w in (1, -1, 10):
            self.leaves(whole(4, (B,), w=w))
            self.leaves(change(3, 4, ((), (B,)), w=w))

    def test_of_an_elder_or_a_later_life(self):
        self.glass.cut()
        self.hears(whole(3, (A,), life=1))
        for life in (0, 2):
            self.leaves(whole(4, (B,), life=life))
            self.leaves(change(3, 4, ((), (B,)), life=life))
        self.has((1, 3), (A,))

    def test_of_a_later_life_while_nothing_is_held(self):
        self.leaves(whole(4, (B,), life=1))
        self.has((0, -1), ())

    def test_haves(self):
        self.hears(whole(3, (A,)))
        for k in (-1, 2, 3, 4):
            self.leaves(("have", 0, 0, k))

    def test_things_of_any_kind(self):
        for held in (False, True):
            if held:
                self.hears(whole(3, (A,)))
            for thing in anything():
                self.leaves(thing)
                self.leaves((thing, 0, 0, 5, ((),)))
                self.leaves(("whole", thing, 0, 5, ((),)))
                self.leaves(("whole", 0, thing, 5, ((),)))
                self.leaves(("whole", 0, 0, 5, (thing, thing)))
                self.leaves(("change", 0, thing, 3, 5, (NOTHING,)))
                self.leaves(("change", 0, 0, thing, 5, (NOTHING,)))
                self.leaves(("change", 0, 0, 3, 5, (thing,)))
                for letter in (("whole", 0, 0, 5, thing), ("whole", 0, 0, 5, (thing,)), ("whole", 0, 0, thing, ((),)),
                               ("change", 0, 0, 3, thing, (NOTHING,)), ("change", 0, 0, 3, 5, ((thing, ()),))):
                    if not is_letter(letter):
                        self.leaves(letter)
        self.has((0, 3), (A,))

    def test_letters_spoilt_in_any_place(self):
        self.hears(whole(3, (A,)))
        for letter in (whole(4, (A, (2, "b"))), change(3, 4, ((A,), ((2, "b"),)))):
            for how, where, other in spoilt(letter):
                if not is_letter(other):
                    with self.subTest((how, where)):
                        self.leaves(other)

    def test_letters_too_long_and_too_short(self):
        self.hears(whole(3, (A,)))
        for letter in (whole(4, (B,)), change(3, 4, ((), (B,)))):
            self.leaves(letter[:-1])
            self.leaves(letter + (0,))
            self.leaves(letter[:-1] + (letter[-1] * 2,))
            self.leaves(letter[:-1] + ((),))
            self.leaves(list(letter))
            self.leaves(Row(letter))
            self.leaves((Text(letter[0]),) + letter[1:])
            self.leaves(letter[:1] + (Whole(0),) + letter[2:])
            self.leaves(letter[:1] + (False,) + letter[2:])


def is_letter(thing):
    """Whether this is a letter of one question, all in it of the kinds that the document tells."""
    if type(thing) is not tuple or len(thing) not in (5, 6) or type(thing[0]) is not str:
        return False
    if thing[0] != {5: "whole", 6: "change"}[len(thing)] or not all(type(number) is int for number in thing[1:-1]):
        return False
    bags = thing[-1]
    if type(bags) is not tuple or len(bags) != 1:
        return False
    if len(thing) == 6:
        bags = bags[0]
        if type(bags) is not tuple or len(bags) != 2:
            return False
    return all(type(bag) is tuple and all(is_row(row) for row in bag) for bag in bags)


def is_row(thing):
    return type(thing) is tuple and all(worth is None or type(worth) is int or is_name(worth) for worth in thing)


def is_name(thing):
    return type(thing) is str and re.fullmatch("[a-z]{1,8}", thing) is not None


class Cuts(Glasses):
    def test_it_holds_nothing_and_its_life_is_one_more(self):
        self.hears(whole(3, (A,)))
        self.assertIsNone(self.glass.cut())
        self.has((1, -1), ())
        self.glass.cut()
        self.has((2, -1), ())

    def test_cut_and_heard_again(self):
        self.hears(whole(3, (A,)))
        self.glass.cut()
        self.leaves(whole(4, (B,)))
        self.leaves(change(3, 4, ((), (B,))))
        self.leaves(change(3, 4, ((), (B,)), life=1))
        self.hears(whole(2, (C,), life=1))
        self.has((1, 2), (C,))
        self.hears(change(2, 5, ((C,), (A, B)), life=1))
        self.has((1, 5), (A, B))

    def test_of_several_questions(self):
        self.glass = Glass(PLAN, 0, (AA, BB))
        self.hears(whole(0, (A,), (("x",),)))
        self.glass.cut()
        self.has((1, -1), (), ())


class Standing(Glasses):
    """rows, as the answers of questions stand."""

    ROWS = (B, (2, "c"), (2, "c"), A, C, (5, "a"))

    def stands(self, question, *rows):
        self.glass = Glass(PLAN, 0, (question,))
        self.hears(whole(0, plain.bag(self.ROWS)))
        self.has((0, 0), rows)

    def test_what_is_no_first_stands_as_a_bag(self):
        for question in (AA, ("once", ("first", 9, (("k", "down"),), AA)), ("called", ("s", "k"), AA)):
            self.stands(question, *plain.bag(self.ROWS))

    def test_a_first_stands_as_its_order_goes(self):
        self.stands(("first", 9, (), AA), *plain.bag(self.ROWS))
        self.stands(("first", 9, (("k", "down"),), AA), (5, "a"), C, B, (2, "c"), (2, "c"), A)
        self.stands(("first", 9, (("s", "up"),), AA), C, A, (5, "a"), B, (2, "c"), (2, "c"))
        self.stands(("first", 9, (("s", "down"), ("k", "down")), AA), (2, "c"), (2, "c"), B, (5, "a"), A, C)
        self.stands(("first", 9, (("s", "down"), ("k", "up")), AA), (2, "c"), (2, "c"), B, A, (5, "a"), C)

    def test_a_first_of_other_columns(self):
        question = ("first", 3, (("x", "down"),), ("called", ("y", "x"), AA))
        self.glass = Glass(PLAN, 0, (question,))
        self.hears(whole(0, (A, B, C)))
        self.has((0, 0), (B, A, C))
        self.hears(change(0, 1, ((C,), (D,))))
        self.has((0, 1), (D, B, A))

    def test_of_several_questions_each_stands_as_its_own(self):
        self.glass = Glass(PLAN, 0, (AA, ("first", 2, (("k", "down"),), AA)))
        self.hears(whole(0, (A, B), (A, B)))
        self.has((0, 0), (A, B), (B, A))
        self.hears(change(0, 1, ((), (C,)), ((A,), (C,))))
        self.has((0, 1), (A, B, C), (C, B))

    def test_great_sums_are_held(self):
        question = ("sums", (), (("x", "sum", "k"),), AA)
        self.glass = Glass(PLAN, 0, (question,))
        self.hears(whole(0, ((10 ** 15,),)))
        self.hears(change(0, 1, (((10 ** 15,),), ((-10 ** 15,),))))
        self.has((0, 1), ((-10 ** 15,),))


class Stays(Glasses):
    def test_what_is_handed_in_stays(self):
        letters = (whole(3, (A, B)), change(3, 4, ((A,), (C,))))
        held = copied((PLAN, letters))
        for letter in letters:
            self.hears(letter)
        self.glass.cut()
        self.assertEqual((PLAN, letters), held)

    def test_what_it_said_stays(self):
        self.hears(whole(3, (A, B)))
        told = (self.glass.rows(), self.glass.mark(), self.glass.say())
        self.glass.cut()
        self.assertEqual(told, (((A, B),), (0, 3), ("have", 0, 0, 3)))

    def test_two_are_each_their_own(self):
        other = Glass(PLAN, 0, (AA,))
        self.hears(whole(3, (A,)))
        self.assertEqual((other.mark(), other.rows()), ((0, -1), ((),)))


if __name__ == "__main__":
    unittest.main()
