"""[2] Whole numbers. [3] Worths, how they and rows rise, bags."""

import itertools
import unittest

from standviews.worths import bag_of, is_name, is_number, is_whole, row_place, worth_place
from tests.things import Text, Whole, anything, is_plain

RISING_WORTHS = [None, -10 ** 15, -10 ** 9, -10, -9, -1, 0, 1, 9, 10, 10 ** 9, 10 ** 15,
                 "a", "aa", "ab", "b", "z", "za"]
RISING_ROWS = [(), (None,), (None, None), (None, 2), (None, "a"), (-1, "z"), (2,), (2, None), (2, None, None), (2, 10),
               (2, "b"), (10, 1), ("a",), ("a", 1), ("a", "a"), ("aa",), ("b", None)]


class Numbers(unittest.TestCase):
    def test_a_whole_number_is_an_int_that_is_no_truth(self):
        for thing in (0, 1, -1, 10 ** 9, 10 ** 9 + 1, -10 ** 40):
            self.assertIs(is_whole(thing), True)
        for thing in (True, False, None, "1", "", (1,), [1], b"1", Whole(1), object()):
            self.assertIs(is_whole(thing), False)

    def test_numbers_go_to_ten_to_the_ninth(self):
        for thing in (0, 1, -1, 10 ** 9, -10 ** 9):
            self.assertIs(is_number(thing), True)
        for thing in (10 ** 9 + 1, -10 ** 9 - 1, 10 ** 5000):
            self.assertIs(is_number(thing), False)

    def test_of_anything(self):
        for thing in anything():
            self.assertIs(is_number(thing), False)


class Names(unittest.TestCase):
    def test_names_have_one_to_eight_letters(self):
        for thing in ("a", "z", "az", "abcdefgh", "zzzzzzzz", "true", "none"):
            self.assertIs(is_name(thing), True)
        for thing in ("", "abcdefghi", "A", "aB", "a1", "a_", "a-", "~", " a", "a ", "`", "{",
                      "\u00e9", "\u00aa", "a\n"):
            self.assertIs(is_name(thing), False)

    def test_each_letter_and_no_other_sign(self):
        for code in range(300):
            self.assertIs(is_name(chr(code)), chr(code) in "abcdefghijklmnopqrstuvwxyz")

    def test_of_anything(self):
        for thing in anything() + [0, 1, b"a", ["a"], ("a",), Text("a")]:
            self.assertIs(is_name(thing), False)


class Rising(unittest.TestCase):
    def test_worths_rise_none_numbers_names(self):
        for low, high in itertools.combinations(RISING_WORTHS, 2):
            self.assertLess(worth_place(low), worth_place(high))

    def test_rows_rise_by_the_first_unlike_worth_the_shorter_ahead(self):
        for low, high in itertools.combinations(RISING_ROWS, 2):
            self.assertLess(row_place(low), row_place(high))


class Bags(unittest.TestCase):
    def test_a_bag_rises_however_its_rows_come(self):
        for turn in range(len(RISING_ROWS)):
            rows = RISING_ROWS[turn:] + RISING_ROWS[:turn]
            self.assertEqual(bag_of(rows[::-1]), tuple(RISING_ROWS))

    def test_a_bag_holds_as_many_of_each_as_there_are(self):
        self.assertEqual(bag_of([(2,), (None,), (2,), (1,), (None,), (2,)]), ((None,), (None,), (1,), (2,), (2,), (2,)))

    def test_of_none_it_is_empty(self):
        self.assertEqual(bag_of([]), ())

    def test_it_is_a_tuple_and_leaves_what_it_is_made_of(self):
        rows = [(2,), (1,)]
        self.assertTrue(is_plain(bag_of(rows)))
        self.assertEqual(rows, [(2,), (1,)])


if __name__ == "__main__":
    unittest.main()
