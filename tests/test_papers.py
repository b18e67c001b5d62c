"""[24] Papers; [4](h); [2] letters and things of any kind."""

import unittest

from standviews.coming import come_up
from standviews.errors import NoPaper
from standviews.houses import House
from standviews.papers import paper, shows_paper
from tests.things import Odd, Row, Text, Whole, anything, copied, is_plain, shown, spoilt

PLAN = (("aa", (("k", "number"), ("s", "name"))),)
AA = ("all", "aa")
ALL = (None, ("k", "s"))


def put(*keys):
    return tuple(("put", "aa", (k, "a")) for k in keys)


def drop(*keys):
    return tuple(("drop", "aa", k) for k in keys)


class Papers(unittest.TestCase):
    def setUp(self):
        """Watcher 1, whose numbers 0 to 5 begin at the moments 2, 3, 5, 6, 8, 9; three changes are kept."""
        self.house = House(PLAN, kept=3)
        self.house.watch("bo", (AA,))
        self.house.right("ann", "aa", ALL)
        self.house.deal(put(1, 2))
        self.house.watch("ann", (AA, ("once", ("pick", ("s",), AA))))
        for dealing in (put(3), (), put(4), put(5, 6), (), put(7), put(8) + drop(1)):
            self.house.deal(dealing)

    def sent(self, life, k):
        """What would be sent, had this mark been heard."""
        return self.house.letter_by(1, (life, k))

    def is_paper(self, letter, *moments):
        with self.subTest(shown(letter)):
            self.assertEqual(paper(self.house, letter), moments)
            self.assertTrue(is_plain(paper(self.house, letter)))
            self.assertIs(shows_paper(self.house, letter, moments), True)
            others = ([], None, moments[:-1], moments + moments[-1:], moments[1:], list(moments), Row(moments),
                      tuple(map(str, moments)), (True,) * len(moments), tuple(moment + 1 for moment in moments),
                      moments[::-1] + (0,), tuple(map(Whole, moments)))
            for thing in others:
                self.assertIs(shows_paper(self.house, letter, thing), False, shown(thing))

    def refuses(self, letter):
        try:
            told = paper(self.house, letter)
        except NoPaper:
            pass
        else:
            self.fail(f"{shown(letter)} has the paper {told}")
        for thing in ((), (9,), (8, 9), (6, 8, 9), None):
            self.assertIs(shows_paper(self.house, letter, thing), False)

    def test_the_moments_are_those_that_the_line_tells(self):
        self.assertEqual(self.house.line(1)[2], ((2, 5), (3, 6), (4, 8), (5, 9)))


class Wholes(Papers):
    def test_that_of_the_newest_number_alone(self):
        self.is_paper(self.sent(0, -1), 9)

    def test_of_any_life_whatever_was_heard(self):
        for life in (0, 1, 7, 10 ** 12):
            self.is_paper(self.sent(life, -1), 9)
        self.house.heard(("have", 1, 5, 5))
        for life in (0, 4, 5, 6):
            self.is_paper(self.sent(life, -1), 9)

    def test_of_number_nought(self):
        self.house.watch("ann", (AA,))
        letter = self.house.beat(2)
        self.assertEqual(letter[:4], ("whole", 2, 0, 0))
        self.is_paper(letter, 9)
        self.house.deal(())
        self.is_paper(letter, 9)

    def test_of_one_that_sees_nothing(self):
        letter = self.house.beat(0)
        self.assertEqual(letter, ("whole", 0, 0, 0, ((),)))
        self.is_paper(letter, 0)

    def test_of_a_number_that_is_not_the_newest(self):
        letter = self.sent(0, -1)
        self.house.deal(())
        self.is_paper(letter, 9)
        self.house.deal(put(9))
        self.refuses(letter)
        self.refuses(letter[:3] + (6,) + letter[4:])
        self.refuses(self.sent(0, -1)[:3] + (5,) + self.sent(0, -1)[4:])
        self.house.deal(drop(9))
        self.refuses(letter)
        self.is_paper(letter[:3] + (7,) + letter[4:], 12)


class Changes(Papers):
    def test_the_moments_of_the_numbers_behind_k(self):
        self.is_paper(self.sent(0, 4), 9)
        self.is_paper(self.sent(0, 3), 8, 9)
        self.is_paper(self.sent(0, 2), 6, 8, 9)

    def test_of_a_k_that_is_kept_just_so_and_just_not(self):
        letter = self.sent(0, 2)
        self.assertEqual(letter[0], "change")
        self.house.deal(put(9))
        self.assertEqual(self.house.line(1)[2][0][0], 3)
        self.is_paper(self.sent(0, 3), 8, 9, 10)
        self.refuses(letter)
        changes = (((((1, "a"),), tuple((k, "a") for k in (5, 6, 7, 8, 9)))), ((), ()))
        self.refuses(("change", 1, 0, 2, 6, changes))
        self.assertEqual(self.sent(0, 2)[0], "whole")

    def test_of_any_life_whatever_was_heard(self):
        for life in (0, 1, 7, 10 ** 12):
            self.is_paper(self.sent(life, 3), 8, 9)
        self.house.heard(("have", 1, 5, 4))
        for life in (0, 4, 5, 6):
            self.is_paper(self.sent(life, 3), 8, 9)

    def test_of_a_k_that_is_not_below_m(self):
        for k in (5, 6, 10 ** 9):
            for changes in ((((), ()), ((), ())), self.sent(0, 4)[5]):
                self.refuses(("change", 1, 0, k, 5, changes))

    def test_of_k_minus_one_and_below(self):
        bags = self.sent(0, -1)[4]
        for k in (-1, -2):
            self.refuses(("change", 1, 0, k, 5, tuple(((), bag) for bag in bags)))

    def test_of_an_m_that_is_not_the_newest(self):
        letter = self.sent(0, 4)
        for m in (4, 6, 0, -1):
            self.refuses(letter[:4] + (m,) + letter[5:])
        self.house.deal(())
        self.is_paper(letter, 9)
        self.house.deal(put(9))
        self.refuses(letter)

    def test_of_changes_with_as_many_rows_as_the_whole_and_with_more(self):
        self.house.deal(drop(2, 3, 4))
        self.house.deal(drop(5))
        # Of number 5 four rows are gone, and 6, 7, 8 and the one a are left.
        self.assertEqual((self.sent(0, 5)[0], self.house.line(1)[1][0]), ("change", ((6, "a"), (7, "a"), (8, "a"))))
        self.is_paper(self.sent(0, 5), 10, 11)
        self.house.deal(drop(6))
        self.assertEqual(self.sent(0, 5)[0], "whole")
        gone = tuple((k, "a") for k in (2, 3, 4, 5, 6))
        self.refuses(("change", 1, 0, 5, 8, ((gone, ()), ((), ()))))

    def test_changes_that_change_nothing(self):
        self.house.deal(put(9))
        self.house.deal(drop(9))
        self.assertEqual(self.sent(0, 5), ("change", 1, 0, 5, 7, (((), ()), ((), ()))))
        self.is_paper(self.sent(0, 5), 10, 11)

    def test_where_none_is_kept(self):
        house = House(PLAN, kept=0)
        house.right("ann", "aa", ALL)
        house.watch("ann", (AA,))
        house.deal(put(1))
        house.deal(put(2))
        self.assertRaises(NoPaper, paper, house, ("change", 0, 0, 1, 2, (((), ((2, "a"),)),)))
        self.assertEqual(paper(house, house.beat(0)), (3,))


class Refused(Papers):
    def letters(self):
        return self.sent(0, -1), self.sent(0, 3), self.sent(2, 4), self.house.beat(0)

    def test_of_another_watcher_or_one_that_watches_not(self):
        for letter in self.letters():
            for w in (2, -1, 10 ** 20, True, False, "1", None, 1 - letter[1]):
                self.refuses(letter[:1] + (w,) + letter[2:])
        letters = self.letters()
        self.house.end(1)
        self.house.end(0)
        for letter in letters:
            self.refuses(letter)

    def test_of_lives_that_are_none(self):
        for letter in self.letters():
            for life in (-1, True, False, None, "0", Whole(0), Odd(), (0,)):
                self.refuses(letter[:2] + (life,) + letter[3:])

    def test_of_other_forms(self):
        for letter in self.letters():
            for thing in (letter[:-1], letter + (0,), list(letter), Row(letter), letter[1:], (letter,),
                          (Text(letter[0]),) + letter[1:], ("have",) + letter[1:], ("have", 1, 0, 3), letter[0],
                          ("whole",) + letter[1:] + ((),), ("change",) + letter[1:-1]):
                self.refuses(thing)
        whole, change = self.sent(0, -1), self.sent(0, 3)
        self.refuses(("change",) + whole[1:])
        self.refuses(("whole",) + change[1:])

    def test_of_changes_or_bags_that_are_not_these(self):
        whole, change = self.sent(0, -1), self.sent(0, 3)
        bag, once = whole[4]
        for bags in ((bag[:-1], once), (bag + bag[-1:], once), (bag[::-1], once), (bag,), (bag, once, ()), (once, bag),
                     (bag, ()), ((), once), (), (bag, (("b",),)), [bag, once], (list(bag), once), None):
            self.refuses(whole[:4] + (bags,))
        (gone, come), same = change[5]
        for changes in (((come, gone), same), ((gone, come),), ((gone, ()), same), (((), come), same), (same, same),
                        ((gone, come[:-1]), same), ((gone, come[::-1]), same), ((gone + ((2, "a"),), come), same),
                        ((gone + ((2, "a"),), come + ((2, "a"),)), same), ((gone, come), same, same), (), None,
                        ([gone, come], same), ((gone, come, ()), same)):
            self.refuses(change[:5] + (changes,))

    def test_of_letters_altered_in_each_place(self):
        for letter in self.letters():
            for how, where, thing in spoilt(letter):
                if where == (2,) and type(thing) is tuple and type(thing[2]) is int:
                    continue
                self.refuses(thing)
            for where, thing in self.altered(letter):
                if where != (2,):
                    self.refuses(thing)

    def altered(self, thing, path=()):
        """The thing with one number or name in it put as another one, or one part left out or doubled."""
        if type(thing) is int:
            yield from [(path, other) for other in (thing + 1, thing - 1, thing + 10 ** 9, -1 - thing)]
        elif type(thing) is str:
            yield from [(path, other) for other in ("b", thing + "b", "whole" if thing == "change" else "change")]
        elif type(thing) is tuple:
            for at, part in enumerate(thing):
                yield path + (at,), thing[:at] + thing[at + 1:]
                yield path + (at,), thing[:at + 1] + thing[at:]
                for where, other in self.altered(part, path + (at,)):
                    yield where, thing[:at] + (other,) + thing[at + 1:]

    def test_of_anything(self):
        for thing in anything():
            self.refuses(thing)
            for letter in self.letters()[:3]:
                for at in range(len(letter)):
                    if at != 2 or type(thing) is not int:
                        self.refuses(letter[:at] + (thing,) + letter[at + 1:])
                self.refuses(letter[:-1] + ((thing,),))
                self.refuses(letter[:-1] + ((thing, thing),))
                self.refuses(letter[:-1] + ((thing,) + letter[-1][1:],))

    def test_things_of_any_kind_are_no_paper(self):
        for letter in (self.sent(0, -1), self.sent(0, 3)):
            for thing in anything():
                self.assertIs(shows_paper(self.house, letter, thing), False)
                self.assertIs(shows_paper(self.house, letter, (thing,)), False)
                self.assertIs(shows_paper(self.house, letter, (thing, 9)), False)
                self.assertIs(shows_paper(self.house, letter, (8, thing)), False)
                self.assertIs(shows_paper(self.house, thing, thing), False)

    def test_a_paper_changes_nothing(self):
        letters = self.letters()
        held = (self.house.written(), self.house.mark(1), self.house.line(1), copied(letters))
        for letter in letters:
            paper(self.house, letter)
            shows_paper(self.house, letter, (9,))
            self.refuses(letter[:-1])
        self.assertEqual((self.house.written(), self.house.mark(1), self.house.line(1), letters), held)


class UpAgain(Papers):
    def test_a_house_that_has_come_up_has_the_same_papers(self):
        letters = [self.sent(life, k) for life in (0, 3) for k in (-1, 2, 3, 4)]
        letters = [(letter, paper(self.house, letter)) for letter in letters]
        for fold in (False, True):
            if fold:
                self.house.fold()
            self.house = come_up(PLAN, self.house.written(), kept=3)
            for letter, moments in letters:
                self.is_paper(letter, *moments)


if __name__ == "__main__":
    unittest.main()
