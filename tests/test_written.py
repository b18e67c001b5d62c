"""[22], [23] What a house writes, folds, and tells of the past."""

import unittest

from standviews.errors import NoMoment, ViewError
from standviews.houses import House
from tests.things import anything, is_plain

PLAN = (
    ("aa", (("k", "number"), ("s", "name"))),
    ("bb", (("id", "name"),)),
)
AA, BB = ("all", "aa"), ("all", "bb")
ALL, HALF = (None, ("k", "s")), (("is", "k", 1), ("k",))
TOTAL = ("sums", (), (("x", "sum", "k"),), AA)


def put(*rows):
    return tuple(("put", "aa", row) for row in rows)


class Written(unittest.TestCase):
    def setUp(self):
        self.house = House(PLAN, kept=2)

    def writes(self, *rows):
        self.assertEqual(self.house.written(), "".join(row + "\n" for row in rows))
        self.assertTrue(is_plain(self.house.written()))


class Rows(Written):
    def test_of_nothing(self):
        self.writes()

    def test_each_that_was_done_in_order(self):
        self.house.watch("ann", (AA, TOTAL))
        self.house.right("ann", "aa", HALF)
        self.house.deal(put((1, "a"), (2, None)) + (("drop", "aa", 1),))
        self.house.deal(())
        self.house.right("ann", "aa", None)
        self.house.end(0)
        self.writes("watch ann 2 all aa sums 0 1 x sum k all aa", "right ann aa rows is k 1 1 k",
                    "deal put aa 1 a put aa 2 ~ drop aa 1", "deal", "right ann aa none", "end 0")

    def test_what_was_refused_is_not_written(self):
        for method, *told in (("deal", (("drop", "aa", 1),)), ("deal", None), ("right", "Ann", "aa", None),
                              ("right", "ann", "zz", None), ("watch", "ann", ()), ("watch", "", (AA,)), ("end", 0)):
            with self.assertRaises(ViewError):
                getattr(self.house, method)(*told)
            self.writes()

    def test_what_only_asks_sends_or_hears_is_not_written(self):
        self.house.watch("ann", (AA,))
        self.house.beat(0)
        self.house.turn(3)
        self.house.heard(("have", 0, 0, 0))
        self.house.line(0)
        self.house.past(0)
        self.house.works()
        self.writes("watch ann 1 all aa")

    def test_one_that_changes_nothing_is_written_too(self):
        self.house.right("ann", "aa", None)
        self.house.right("ann", "aa", None)
        self.writes("right ann aa none", "right ann aa none")


class Folded(Written):
    def test_of_an_empty_house(self):
        self.assertIsNone(self.house.fold())
        self.writes("picture 0 0", "entries")
        self.assertEqual(self.house.begun(), 0)

    def test_rows_of_each_table_by_their_worths(self):
        self.house.deal(put((2, None), (1, "b")) + (("put", "bb", ("x",)), ("put", "bb", ("a",)), ("drop", "bb", "x")))
        self.house.fold()
        self.writes("picture 1 0", "row aa 1 b", "row aa 2 ~", "row bb a", "entries")
        self.assertEqual(self.house.begun(), 1)

    def test_rights_that_are_not_none_persons_rising_tables_in_order(self):
        self.house.right("cy", "bb", (None, ()))
        self.house.right("cy", "aa", HALF)
        self.house.right("ann", "bb", (None, ("id",)))
        self.house.right("bo", "aa", ALL)
        self.house.right("bo", "aa", None)
        self.house.right("dan", "aa", None)
        self.house.fold()
        self.writes("picture 6 0", "may ann bb all 1 id", "may cy aa rows is k 1 1 k", "may cy bb all 0", "entries")

    def test_lines_of_those_that_watch_rising(self):
        self.house.right("ann", "aa", ALL)
        self.house.watch("bo", (BB,))
        self.house.watch("ann", (AA, TOTAL))
        self.house.watch("ann", (AA,))
        self.house.end(2)
        self.house.deal(put((1, "a")))
        self.house.watch("ann", (AA,))
        self.house.fold()
        self.writes("picture 2 4", "row aa 1 a", "may ann aa all 2 k s", "line 0 bo 0 1 1 all bb",
                    "line 1 ann 0 1 2 all aa sums 0 1 x sum k all aa", "kept 1 2 - 1,a - 1",
                    "line 3 ann 0 2 1 all aa", "entries")

    def test_behind_ends(self):
        self.house.watch("ann", (AA,))
        self.house.watch("ann", (AA,))
        self.house.end(0)
        self.house.end(1)
        self.house.fold()
        self.writes("picture 0 2", "entries")

    def test_a_line_that_has_lost_its_eldest(self):
        self.house.right("ann", "aa", ALL)
        self.house.watch("ann", (AA,))
        for k in range(1, 5):
            self.house.deal(put((k, None)) + (("drop", "aa", k - 1),)[:k - 1])
        self.house.deal(())
        self.house.fold()
        self.writes("picture 6 1", "row aa 4 ~", "may ann aa all 2 k s", "line 0 ann 2 3 1 all aa",
                    "kept 0 4 2,~ 3,~", "kept 0 5 3,~ 4,~", "entries")

    def test_with_none_kept(self):
        self.house = House(PLAN, kept=0)
        self.house.right("ann", "aa", ALL)
        self.house.watch("ann", (AA,))
        for k in range(1, 4):
            self.house.deal(put((k, None)))
        self.house.deal(())
        self.house.fold()
        self.writes("picture 5 1", "row aa 1 ~", "row aa 2 ~", "row aa 3 ~", "may ann aa all 2 k s",
                    "line 0 ann 3 4 1 all aa", "entries")

    def test_what_comes_behind(self):
        self.house.deal(put((1, "a")))
        self.house.fold()
        self.house.right("ann", "aa", ALL)
        self.house.watch("ann", (AA,))
        self.house.deal(put((2, "b")))
        self.house.end(0)
        self.writes("picture 1 0", "row aa 1 a", "entries", "right ann aa all 2 k s", "watch ann 1 all aa",
                    "deal put aa 2 b", "end 0")

    def test_twice(self):
        self.house.watch("ann", (AA,))
        self.house.fold()
        self.house.fold()
        self.writes("picture 0 1", "line 0 ann 0 0 1 all aa", "entries")
        self.house.deal(put((1, "a")))
        self.house.end(0)
        self.house.fold()
        self.writes("picture 1 1", "row aa 1 a", "entries")

    def test_it_changes_nothing_else(self):
        self.house.right("ann", "aa", ALL)
        self.house.watch("ann", (AA,))
        self.house.deal(put((1, "a")))
        self.house.heard(("have", 0, 1, 0))
        held = self.told()
        self.house.fold()
        self.assertEqual(self.told(), held)

    def told(self):
        house = self.house
        return (house.moment(), house.store(), house.rights("ann"), house.watchers(), house.line(0), house.works(),
                house.total(), house.mark(0), house.beat(0))

    def test_great_sums(self):
        self.house.right("ann", "aa", ALL)
        self.house.watch("ann", (TOTAL,))
        self.house.deal(put(*[(10 ** 9 - k, None) for k in range(3)]))
        self.house.deal(put(*[(k - 10 ** 9, None) for k in range(7)]))
        self.house.fold()
        self.assertIn("kept 0 2 - 2999999997\nkept 0 3 2999999997 -3999999982\n", self.house.written())


class Past(Written):
    def test_at_first(self):
        self.assertEqual((self.house.begun(), self.house.past(0)), (0, (((), ()), ())))
        self.assertTrue(is_plain((self.house.begun(), self.house.past(0))))

    def history(self):
        self.house.deal(put((1, "a")))
        self.house.right("bo", "aa", ALL)
        self.house.right("ann", "bb", (None, ()))
        self.house.watch("ann", (AA,))
        self.house.deal((("drop", "aa", 1), ("put", "bb", ("x",))))
        self.house.right("bo", "aa", None)
        self.house.end(0)

    def test_each_moment_from_nought_to_now(self):
        self.history()
        ann, bo = ("ann", (None, (None, ()))), ("bo", (ALL, None))
        for moment, told in enumerate(((((), ()), ()), ((((1, "a"),), ()), ()), ((((1, "a"),), ()), (bo,)),
                                       ((((1, "a"),), ()), (ann, bo)), (((), (("x",),)), (ann, bo)),
                                       (((), (("x",),)), (ann,)))):
            self.assertEqual(self.house.past(moment), told)
            self.assertTrue(is_plain(self.house.past(moment)))

    def test_those_who_have_none_again_are_not_told(self):
        self.house.right("bo", "aa", None)
        self.house.right("ann", "aa", ALL)
        self.house.right("ann", "aa", None)
        self.assertEqual(self.house.past(3), (((), ()), ()))
        self.assertEqual(self.house.past(2)[1], (("ann", (ALL, None)),))

    def test_from_the_last_fold_on(self):
        self.history()
        held = self.house.past(5)
        self.house.fold()
        self.assertEqual((self.house.begun(), self.house.moment(), self.house.past(5)), (5, 5, held))
        self.refused(range(5))
        self.house.deal(put((7, None)))
        self.assertEqual((self.house.begun(), self.house.past(5)), (5, held))
        self.assertEqual(self.house.past(6), ((((7, None),), (("x",),)), held[1]))
        self.house.fold()
        self.assertEqual(self.house.begun(), 6)
        self.refused((4, 5, 7))

    def refused(self, moments):
        for moment in moments:
            with self.assertRaises(NoMoment):
                self.house.past(moment)

    def test_refused_one_ahead_and_one_behind(self):
        self.refused((-1, 1, 10 ** 20))
        self.history()
        self.refused((-1, -5, 6, 7))

    def test_refused_of_anything(self):
        self.history()
        self.refused(anything() + [True, False, "0", (0,), 0.0])


if __name__ == "__main__":
    unittest.main()
