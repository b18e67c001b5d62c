"""[14] Lines; [2] nothing handed in is changed."""

import random
import unittest

from standviews.bags import changed
from standviews.lines import KEPT, Line
from tests import plain
from tests.things import anything, copied, is_plain

A, B, C = (1, "a"), (2, "b"), (None, "c")
NOTHING = ((), ())


def come(*rows):
    return ((), rows)


def gone(*rows):
    return (rows, ())


class Beginning(unittest.TestCase):
    def test_kept_is_eight(self):
        self.assertEqual(KEPT, 8)
        self.assertIs(type(KEPT), int)

    def test_number_nought_is_the_bags(self):
        line = Line(((A,), ()), 5)
        self.assertEqual((line.number(), line.bags(), line.moments()), (0, ((A,), ()), ((0, 5),)))
        self.assertEqual(line.since(0), (NOTHING, NOTHING))
        self.assertTrue(is_plain((line.number(), line.bags(), line.moments(), line.since(0))))

    def test_kept_is_handed_in_by_its_name_alone(self):
        self.assertEqual(Line(((),), 0, kept=3).number(), 0)
        self.assertRaises(TypeError, Line, ((),), 0, 3)


class Putting(unittest.TestCase):
    def test_the_next_number_begins_at_the_moment(self):
        line = Line(((A,), ()), 5)
        self.assertIsNone(line.put((come(B), NOTHING), 7))
        self.assertEqual((line.number(), line.bags(), line.moments()), (1, ((A, B), ()), ((0, 5), (1, 7))))
        line.put((gone(A), come(C, C)), 8)
        self.assertEqual((line.number(), line.bags()), (2, ((B,), (C, C))))
        self.assertEqual(line.moments(), ((0, 5), (1, 7), (2, 8)))
        self.assertTrue(is_plain((line.number(), line.bags(), line.moments(), line.since(0), line.since(1))))

    def test_where_all_changes_are_empty_it_is_nothing(self):
        for bags in (((A,),), ((A,), (B,)), ((A,), (B,), ())):
            line = Line(bags, 5)
            self.assertIsNone(line.put((NOTHING,) * len(bags), 6))
            self.assertEqual((line.number(), line.bags(), line.moments()), (0, bags, ((0, 5),)))
            self.assertEqual(line.since(0), (NOTHING,) * len(bags))
            line.put((come(C),) + (NOTHING,) * (len(bags) - 1), 7)
            line.put((NOTHING,) * len(bags), 8)
            self.assertEqual((line.number(), line.moments()), (1, ((0, 5), (1, 7))))

    def test_where_one_change_is_not_empty_it_is_a_number(self):
        for changes in ((come(B), NOTHING), (NOTHING, come(B)), (gone(A), NOTHING), (NOTHING, gone(A))):
            line = Line(((A,), (A,)), 0)
            line.put(changes, 1)
            self.assertEqual(line.number(), 1)
            self.assertEqual(line.since(0), changes)

    def test_empty_puts_push_nothing_out(self):
        line = Line(((),), 0, kept=1)
        line.put((come(A),), 1)
        for moment in range(2, 20):
            line.put((NOTHING,), moment)
        self.assertEqual((line.moments(), line.since(0)), (((0, 0), (1, 1)), (come(A),)))


class Since(unittest.TestCase):
    def setUp(self):
        self.line = Line(((A,), ()), 0)
        self.line.put((come(B), NOTHING), 1)
        self.line.put((gone(A, B), come(C)), 2)
        self.line.put((come(A), come(C)), 3)

    def test_it_is_one_change_of_those_one_behind_the_other(self):
        self.assertEqual(self.line.since(2), (come(A), come(C)))
        self.assertEqual(self.line.since(1), (gone(B), come(C, C)))
        self.assertEqual(self.line.since(0), (NOTHING, come(C, C)))

    def test_of_the_newest_all_are_empty(self):
        self.assertEqual(self.line.since(3), (NOTHING, NOTHING))

    def test_of_what_is_no_number_of_it(self):
        for number in (-1, -2, 4, 5, 10 ** 9, -10 ** 9):
            self.assertIsNone(self.line.since(number))
        for thing in anything():
            self.assertIsNone(self.line.since(thing))
        self.assertEqual(self.line.number(), 3)

    def test_of_minus_one_and_one_more_at_the_beginning(self):
        line = Line(((A,),), 0)
        self.assertIsNone(line.since(-1))
        self.assertIsNone(line.since(1))
        self.assertEqual(line.since(0), (NOTHING,))

    def test_a_change_and_the_one_back(self):
        line = Line(((A,),), 0)
        line.put((gone(A),), 4)
        line.put((come(A),), 9)
        self.assertEqual((line.number(), line.bags(), line.since(0)), (2, ((A,),), (NOTHING,)))
        self.assertEqual(line.moments(), ((0, 0), (1, 4), (2, 9)))


class HowManyAreKept(unittest.TestCase):
    def line(self, many, **kept):
        """A line of so many numbers more: number k holds the rows 1 to k, and began at the moment 10 * k."""
        line = Line(((),), 0, **kept)
        for number in range(1, many + 1):
            line.put((come((number,)),), 10 * number)
        return line

    def check(self, line, many, kept):
        oldest = max(0, many - kept)
        self.assertEqual(line.number(), many)
        self.assertEqual(line.bags(), (tuple((row,) for row in range(1, many + 1)),))
        self.assertEqual(line.moments(), tuple((number, 10 * number) for number in range(oldest, many + 1)))
        for number in range(-1, many + 2):
            with self.subTest((many, kept, number)):
                if oldest <= number <= many:
                    self.assertEqual(line.since(number), (come(*[(row,) for row in range(number + 1, many + 1)]),))
                else:
                    self.assertIsNone(line.since(number))

    def test_none_is_kept(self):
        for many in range(4):
            self.check(self.line(many, kept=0), many, 0)

    def test_one_is_kept(self):
        for many in range(5):
            self.check(self.line(many, kept=1), many, 1)

    def test_eight_are_kept(self):
        for many in (0, 1, 7, 8, 9, 10, 17, 30):
            self.check(self.line(many, kept=8), many, 8)
            self.check(self.line(many), many, 8)

    def test_just_kept_and_just_not(self):
        for kept in (0, 1, 2, 5, 8, 9):
            line = self.line(20, kept=kept)
            self.check(line, 20, kept)
            self.assertIsNotNone(line.since(20 - kept))
            self.assertIsNone(line.since(20 - kept - 1))

    def test_more_than_there_are(self):
        self.check(self.line(20, kept=1000), 20, 1000)


class Apart(unittest.TestCase):
    def test_lines_are_each_their_own(self):
        one, other = Line(((A,),), 0), Line(((A,),), 0)
        one.put((come(B),), 1)
        self.assertEqual((other.number(), other.bags(), other.moments()), (0, ((A,),), ((0, 0),)))

    def test_what_is_handed_in_stays(self):
        bags, changes = ((A,), ()), (come(B), NOTHING)
        held = copied((bags, changes))
        line = Line(bags, 0, kept=1)
        for moment in range(1, 4):
            line.put(changes, moment)
        line.since(2)
        self.assertEqual((bags, changes), held)

    def test_by_chance_since_leads_to_the_newest(self):
        chance = random.Random(12)
        for _ in range(60):
            many, kept = chance.randrange(1, 4), chance.choice((0, 1, 3, 8))
            bags = self.bags(chance, many)
            line, told = Line(bags, 0, kept=kept), [(0, bags)]
            for moment in range(1, 15):
                other = self.bags(chance, many) if chance.randrange(3) else told[-1][1]
                line.put(tuple(plain.change(bag, into) for bag, into in zip(told[-1][1], other)), moment)
                if other != told[-1][1]:
                    told.append((moment, other))
                self.check(line, told, kept)

    def bags(self, chance, many):
        return tuple(plain.bag([chance.choice((A, B, C)) for _ in range(chance.randrange(3))]) for _ in range(many))

    def check(self, line, told, kept):
        newest = len(told) - 1
        oldest = max(0, newest - kept)
        self.assertEqual((line.number(), line.bags()), (newest, told[-1][1]))
        self.assertEqual(line.moments(), tuple((number, told[number][0]) for number in range(oldest, newest + 1)))
        for number, (_, bags) in enumerate(told):
            changes = line.since(number)
            if number < oldest:
                self.assertIsNone(changes)
                continue
            self.assertEqual(tuple(changed(bag, change) for bag, change in zip(bags, changes)), told[-1][1])
            self.assertEqual(changes, tuple(plain.change(bag, into) for bag, into in zip(bags, told[-1][1])))


if __name__ == "__main__":
    unittest.main()
