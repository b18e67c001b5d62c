"""[12] Changes of bags; [3] bags rise; [2] nothing handed in is changed."""

import collections
import random
import unittest

from standviews.bags import between, changed, joined
from tests import plain
from tests.things import copied, is_plain

NOTHING = ((), ())
ONE, TWO, TEN, NONE, NAME = (1, "a"), (2, "a"), (10, "a"), (None, "a"), ("a", "a")


class Changed(unittest.TestCase):
    def gives(self, bag, change, *rows):
        with self.subTest((bag, change)):
            self.assertEqual(changed(bag, change), rows)
            self.assertTrue(is_plain(changed(bag, change)))

    def test_rows_come(self):
        self.gives((), ((), (ONE,)), ONE)
        self.gives((ONE, TEN), ((), (NONE, TWO, NAME)), NONE, ONE, TWO, TEN, NAME)

    def test_rows_go(self):
        self.gives((ONE,), ((ONE,), ()))
        self.gives((NONE, ONE, TWO, TEN, NAME), ((NONE, TWO), ()), ONE, TEN, NAME)

    def test_both(self):
        self.gives((ONE, TWO), ((ONE,), (NONE, TEN)), NONE, TWO, TEN)
        self.gives((ONE, TWO), ((ONE, TWO), (NAME,)), NAME)

    def test_rows_that_are_there_several_times(self):
        self.gives((ONE, ONE, ONE, TWO), ((ONE,), ()), ONE, ONE, TWO)
        self.gives((ONE, ONE, ONE, TWO), ((ONE, ONE, ONE), (TWO, TWO)), TWO, TWO, TWO)
        self.gives((ONE,), ((), (ONE, ONE)), ONE, ONE, ONE)

    def test_a_change_that_changes_nothing(self):
        self.gives((), NOTHING)
        self.gives((ONE, ONE, TEN), NOTHING, ONE, ONE, TEN)


class Between(unittest.TestCase):
    def gives(self, bag, other, gone, come):
        with self.subTest((bag, other)):
            self.assertEqual(between(bag, other), (gone, come))
            self.assertEqual(between(other, bag), (come, gone))
            self.assertTrue(is_plain(between(bag, other)))

    def test_alike_bags(self):
        self.gives((), (), *NOTHING)
        self.gives((ONE, ONE, TWO), (ONE, ONE, TWO), *NOTHING)

    def test_from_nothing(self):
        self.gives((), (NONE, ONE, ONE, NAME), (), (NONE, ONE, ONE, NAME))

    def test_rows_that_came_and_went(self):
        self.gives((ONE, TWO, NAME), (NONE, TWO, TEN), (ONE, NAME), (NONE, TEN))

    def test_rows_that_are_there_several_times(self):
        self.gives((ONE, ONE, ONE, TWO), (ONE, TWO, TWO), (ONE, ONE), (TWO,))
        self.gives((ONE, ONE), (ONE, ONE, ONE), (), (ONE,))


class Joined(unittest.TestCase):
    def gives(self, one, two, gone, come):
        with self.subTest((one, two)):
            self.assertEqual(joined(one, two), (gone, come))
            self.assertTrue(is_plain(joined(one, two)))

    def test_of_rows_apart(self):
        self.gives(((ONE,), (TEN,)), ((TWO,), (NONE,)), (ONE, TWO), (NONE, TEN))

    def test_with_nothing(self):
        self.gives(NOTHING, NOTHING, (), ())
        self.gives(((ONE,), (TEN, TEN)), NOTHING, (ONE,), (TEN, TEN))
        self.gives(NOTHING, ((ONE,), (TEN, TEN)), (ONE,), (TEN, TEN))

    def test_a_change_and_the_one_back(self):
        self.gives(((ONE, ONE), (TEN,)), ((TEN,), (ONE, ONE)), (), ())
        self.gives(((), (TEN, TEN)), ((TEN, TEN), ()), (), ())

    def test_a_row_that_comes_and_goes_and_one_that_goes_and_comes(self):
        self.gives(((), (TEN, TWO)), ((TEN,), (NAME,)), (), (TWO, NAME))
        self.gives(((ONE, TWO), ()), ((), (ONE, NAME)), (TWO,), (NAME,))

    def test_rows_that_are_there_several_times(self):
        self.gives(((), (ONE, ONE, ONE)), ((ONE,), ()), (), (ONE, ONE))
        self.gives(((ONE,), ()), ((), (ONE, ONE)), (), (ONE,))
        self.gives(((ONE, ONE), (TWO,)), ((TWO, TWO), (ONE,)), (ONE, TWO), ())
        self.gives(((ONE,), ()), ((ONE,), ()), (ONE, ONE), ())


class Together(unittest.TestCase):
    def bag(self, chance):
        return plain.bag([chance.choice((ONE, TWO, TEN, NONE, NAME)) for _ in range(chance.randrange(9))])

    def test_by_chance_they_lead_where_they_are_told_to(self):
        chance = random.Random(10)
        for _ in range(500):
            first, second, third = self.bag(chance), self.bag(chance), self.bag(chance)
            one, two = between(first, second), between(second, third)
            for bag, other, change in ((first, second, one), (second, third, two), (first, third, joined(one, two))):
                self.assertEqual(changed(bag, change), other)
                self.assertEqual(change, plain.change(bag, other))
                gone, come = change
                self.assertFalse(set(gone) & set(come))
                had = collections.Counter(bag)
                had.subtract(gone)
                had.update(come)
                self.assertEqual(had, collections.Counter(other) | had)

    def test_what_is_handed_in_stays(self):
        bag, change = (ONE, ONE, TWO), ((ONE,), (TEN,))
        held = copied((bag, change))
        changed(bag, change)
        between(bag, (TWO, TEN))
        joined(change, ((TEN,), (NAME,)))
        self.assertEqual((bag, change), held)


if __name__ == "__main__":
    unittest.main()
