"""[9] Answers; [3] how rows and bags rise, sums beyond worths; [2] nothing handed in is changed."""

import random
import unittest

from standviews.answers import answer
from standviews.questions import is_question
from tests import making, plain
from tests.things import copied, is_plain

PLAN = (
    ("aa", (("k", "number"), ("s", "name"), ("n", "number"))),
    ("bb", (("id", "name"), ("m", "number"), ("t", "name"))),
    ("cc", (("key", "number"),)),
)
STORE = (
    ((-3, "b", None), (1, "a", 5), (2, None, 5), (3, "b", 7), (10, "ab", None), (11, "a", 5)),
    (("a", 5, "z"), ("b", None, "a"), ("c", 7, None), ("d", 5, "b")),
    (),
)
AA, BB, CC = ("all", "aa"), ("all", "bb"), ("all", "cc")
# As many of some rows, and None, as a store's own table never has.
TWICE = ("pick", ("s", "n"), AA)


class Cases(unittest.TestCase):
    def gives(self, question, *rows, store=STORE):
        with self.subTest(question):
            self.assertIs(is_question(PLAN, question), True)
            told = answer(PLAN, question, store)
            self.assertEqual(told, rows)
            self.assertTrue(is_plain(told))


class OneSided(Cases):
    def test_all(self):
        self.gives(AA, *STORE[0])
        self.gives(BB, *STORE[1])
        self.gives(CC)

    def test_all_of_keys_that_are_none_or_alike(self):
        rows = ((None, None, None), (None, None, None), (1, None, 2), (1, None, 2), (1, "a", None))
        self.gives(AA, *rows, store=(rows, (), ()))

    def test_where(self):
        self.gives(("where", ("is", "s", "a"), AA), (1, "a", 5), (11, "a", 5))
        self.gives(("where", ("is", "s", None), AA), (2, None, 5))
        self.gives(("where", ("below", "n", 7), AA), (1, "a", 5), (2, None, 5), (11, "a", 5))
        self.gives(("where", ("not", ("below", "n", 7)), AA), (-3, "b", None), (3, "b", 7), (10, "ab", None))
        self.gives(("where", ("is", "k", 4), AA))
        self.gives(("where", ("is", "key", 4), CC))

    def test_where_tells_rows_as_often_as_they_are_there(self):
        self.gives(("where", ("is", "n", 5), TWICE), (None, 5), ("a", 5), ("a", 5))

    def test_pick(self):
        self.gives(("pick", ("n",), AA), (None,), (None,), (5,), (5,), (5,), (7,))
        self.gives(("pick", ("n", "k"), AA), (None, -3), (None, 10), (5, 1), (5, 2), (5, 11), (7, 3))
        self.gives(TWICE, (None, 5), ("a", 5), ("a", 5), ("ab", None), ("b", None), ("b", 7))
        self.gives(("pick", ("key",), CC))

    def test_called(self):
        self.gives(("called", ("x", "y", "z"), AA), *STORE[0])
        self.gives(("pick", ("z", "x"), ("called", ("x", "y", "z"), BB)), (None, "c"), ("a", "b"), ("b", "d"),
                   ("z", "a"))

    def test_called_by_names_of_the_other_columns(self):
        turned = ("called", ("n", "s", "k"), AA)
        self.gives(turned, *STORE[0])
        self.gives(("pick", ("n",), turned), (-3,), (1,), (2,), (3,), (10,), (11,))
        self.gives(("where", ("is", "k", 7), turned), (3, "b", 7))
        self.gives(("where", ("is", "n", 3), turned), (3, "b", 7))
        self.gives(("called", ("k", "s", "n"), turned), *STORE[0])
        self.gives(("sums", (), (("x", "sum", "k"), ("y", "sum", "n")), turned), (22, 24))
        self.gives(("first", 2, (("k", "up"),), turned), (-3, "b", None), (10, "ab", None))

    def test_once(self):
        self.gives(("once", TWICE), (None, 5), ("a", 5), ("ab", None), ("b", None), ("b", 7))
        self.gives(("once", ("pick", ("n",), AA)), (None,), (5,), (7,))
        self.gives(("once", AA), *STORE[0])
        self.gives(("once", CC))

    def test_a_bag_rises_none_numbers_names(self):
        self.gives(("pick", ("k",), AA), (-3,), (1,), (2,), (3,), (10,), (11,))
        self.gives(("pick", ("t",), BB), (None,), ("a",), ("b",), ("z",))
        self.gives(("pick", ("s",), AA), (None,), ("a",), ("a",), ("ab",), ("b",), ("b",))


class TwoSided(Cases):
    def test_join(self):
        self.gives(("join", "s", "id", AA, BB), (-3, "b", None, "b", None, "a"), (1, "a", 5, "a", 5, "z"),
                   (3, "b", 7, "b", None, "a"), (11, "a", 5, "a", 5, "z"))
        self.gives(("join", "id", "s", BB, AA), ("a", 5, "z", 1, "a", 5), ("a", 5, "z", 11, "a", 5),
                   ("b", None, "a", -3, "b", None), ("b", None, "a", 3, "b", 7))
        self.gives(("join", "k", "key", AA, CC))
        self.gives(("join", "key", "k", CC, AA))

    def test_join_of_none_and_none(self):
        store = (((1, None, None), (2, "a", None)), (("a", None, None), ("b", 0, None)), ())
        self.gives(("join", "n", "m", AA, BB), store=store)
        self.gives(("join", "s", "t", AA, BB), store=store)
        self.gives(("join", "s", "id", AA, BB), (2, "a", None, "a", None, None), store=store)

    def test_join_of_each_with_each_as_often_as_they_are_there(self):
        left, right = ("pick", ("n",), AA), ("pick", ("m",), BB)
        self.gives(("join", "n", "m", left, right), *[(5, 5)] * 6, (7, 7))
        self.gives(("join", "n", "m", left, BB), *[(5, "a", 5, "z")] * 3, *[(5, "d", 5, "b")] * 3, (7, "c", 7, None))

    def test_join_of_a_table_with_itself(self):
        self.gives(("pick", ("k", "x"), ("join", "n", "z", AA, ("called", ("x", "y", "z"), AA))),
                   (1, 1), (1, 2), (1, 11), (2, 1), (2, 2), (2, 11), (3, 3), (11, 1), (11, 2), (11, 11))

    def test_join_rises_by_whole_rows(self):
        store = (((1, "b", 1), (2, "a", 1)), (("a", 1, None), ("b", 1, None)), ())
        self.gives(("join", "n", "m", ("pick", ("s", "n"), AA), BB), ("a", 1, "a", 1, None), ("a", 1, "b", 1, None),
                   ("b", 1, "a", 1, None), ("b", 1, "b", 1, None), store=store)

    def test_lacking(self):
        self.gives(("lacking", "s", "id", AA, BB), (2, None, 5), (10, "ab", None))
        self.gives(("lacking", "id", "s", BB, AA), ("c", 7, None), ("d", 5, "b"))
        self.gives(("lacking", "s", "id", AA, ("where", ("is", "id", "b"), BB)), (1, "a", 5), (2, None, 5),
                   (10, "ab", None), (11, "a", 5))
        self.gives(("lacking", "k", "key", AA, CC), *STORE[0])
        self.gives(("lacking", "key", "k", CC, AA))

    def test_lacking_with_none(self):
        self.gives(("lacking", "n", "m", AA, BB), (-3, "b", None), (10, "ab", None))
        self.gives(("lacking", "m", "n", BB, AA), ("b", None, "a"))
        self.gives(("lacking", "n", "n", AA, AA), (-3, "b", None), (10, "ab", None))
        nones = ("where", ("is", "m", None), BB)
        self.gives(("lacking", "n", "m", AA, nones), *STORE[0])
        self.gives(("lacking", "m", "n", nones, AA), ("b", None, "a"))

    def test_lacking_tells_rows_as_often_as_they_are_there(self):
        self.gives(("lacking", "s", "id", TWICE, ("where", ("is", "id", "b"), BB)), (None, 5), ("a", 5), ("a", 5),
                   ("ab", None))
        self.gives(("lacking", "n", "m", ("pick", ("n",), AA), ("where", ("is", "m", 7), BB)), (None,), (None,), (5,),
                   (5,), (5,))


class Sums(Cases):
    def test_by_groups(self):
        self.gives(("sums", ("s",), (("x", "count", None), ("y", "sum", "n"), ("z", "least", "k"), ("w", "most", "k")),
                    AA), (None, 1, 5, 2, 2), ("a", 2, 10, 1, 11), ("ab", 1, 0, 10, 10), ("b", 2, 7, -3, 3))
        self.gives(("sums", ("n", "s"), (("x", "count", None),), AA), (None, "ab", 1), (None, "b", 1), (5, None, 1),
                   (5, "a", 2), (7, "b", 1))
        self.gives(("sums", ("s", "n"), (("x", "count", None),), AA), (None, 5, 1), ("a", 5, 2), ("ab", None, 1),
                   ("b", None, 1), ("b", 7, 1))

    def test_without_groups(self):
        self.gives(("sums", (), (("x", "count", None),), AA), (6,))
        self.gives(("sums", (), (("x", "most", "n"), ("y", "count", None), ("z", "sum", "k")), AA), (7, 6, 24))

    def test_over_no_rows(self):
        for sums in ((("x", "count", None),), (("x", "sum", "key"),), (("x", "least", "key"), ("y", "most", "key"))):
            self.gives(("sums", (), sums, CC))
            self.gives(("sums", ("key",), sums, CC))
        self.gives(("sums", (), (("x", "count", None),), ("where", ("is", "k", 4), AA)))

    def test_of_columns_that_hold_none_alone(self):
        store = (((1, None, None), (2, "a", None), (3, "a", None)), (), ())
        sums = (("x", "sum", "n"), ("y", "least", "n"), ("z", "most", "n"), ("w", "count", None), ("v", "least", "s"),
                ("u", "most", "s"))
        self.gives(("sums", (), sums, AA), (0, None, None, 3, "a", "a"), store=store)
        self.gives(("sums", ("s",), sums[:4], AA), (None, 0, None, None, 1), ("a", 0, None, None, 2), store=store)
        self.gives(("sums", ("k",), sums[4:], AA), (1, None, None), (2, "a", "a"), (3, "a", "a"), store=store)
        self.gives(("sums", (), (("x", "sum", "n"),), AA), (0,), store=store)

    def test_least_and_most_leave_none_out(self):
        self.gives(("sums", (), (("x", "least", "n"), ("y", "most", "n"), ("z", "least", "s")), AA), (5, 7, "a"))
        self.gives(("sums", ("s",), (("x", "least", "n"), ("y", "most", "n")), AA), (None, 5, 5), ("a", 5, 5),
                   ("ab", None, None), ("b", 7, 7))

    def test_least_and_most_of_names_go_as_python_sorts(self):
        store = (tuple((key, name, 0) for key, name in enumerate(("b", "ab", "abc", "z", "aa", None))), (), ())
        self.gives(("sums", ("n",), (("x", "least", "s"), ("y", "most", "s")), AA), (0, "aa", "z"), store=store)
        self.gives(("sums", (), (("x", "least", "s"), ("y", "most", "s")), ("where", ("below", "k", 3), AA)),
                   ("ab", "b"), store=store)

    def test_least_and_most_of_numbers_go_by_their_worth(self):
        store = (((-9, None, 9), (-10, None, 10), (2, None, -1)), (), ())
        self.gives(("sums", (), (("x", "least", "k"), ("y", "most", "k"), ("z", "least", "n"), ("w", "most", "n")), AA),
                   (-10, 2, -1, 10), store=store)

    def test_rows_that_are_there_several_times_count_as_often(self):
        self.gives(("sums", ("s",), (("x", "count", None), ("y", "sum", "n")), TWICE), (None, 1, 5), ("a", 2, 10),
                   ("ab", 1, 0), ("b", 2, 7))
        self.gives(("sums", ("s",), (("x", "count", None), ("y", "sum", "n")), ("once", TWICE)), (None, 1, 5),
                   ("a", 1, 5), ("ab", 1, 0), ("b", 2, 7))

    def test_sums_may_be_greater_than_worths(self):
        many = 150
        store = (tuple((10 ** 9 - many + key, None, 10 ** 9) for key in range(1, many + 1)), (), ())
        total = ("sums", (), (("x", "sum", "n"),), AA)
        self.gives(total, (many * 10 ** 9,), store=store)
        self.gives(("where", ("not", ("below", "x", 10 ** 9)), total), (many * 10 ** 9,), store=store)
        self.gives(("where", ("below", "x", 10 ** 9), total), store=store)
        self.gives(("where", ("like", "x", "y"), ("sums", (), (("x", "sum", "n"), ("y", "sum", "n")), AA)),
                   (many * 10 ** 9, many * 10 ** 9), store=store)
        low = (tuple((key, None, -10 ** 9) for key in range(3)), (), ())
        self.gives(("where", ("below", "x", -10 ** 9), total), (-3 * 10 ** 9,), store=low)
        self.gives(("where", ("is", "x", -10 ** 9), total), (-10 ** 9,), store=(low[0][:1], (), ()))

    def test_sums_of_sums(self):
        self.gives(("sums", ("x",), (("y", "count", None), ("z", "most", "s")),
                    ("sums", ("s",), (("x", "count", None),), AA)), (1, 2, "ab"), (2, 2, "b"))


class First(Cases):
    def test_of_one_and_of_many(self):
        self.gives(("first", 1, (), AA), STORE[0][0])
        self.gives(("first", 5, (), AA), *STORE[0][:5])
        self.gives(("first", 6, (), AA), *STORE[0])
        self.gives(("first", 7, (), AA), *STORE[0])
        self.gives(("first", 10 ** 9, (), AA), *STORE[0])
        self.gives(("first", 10 ** 9, (), CC))
        self.gives(("first", 1, (("key", "down"),), CC))

    def test_without_an_order_it_goes_by_whole_rows(self):
        self.gives(("first", 3, (), TWICE), (None, 5), ("a", 5), ("a", 5))
        self.gives(("first", 4, (), ("pick", ("n", "k"), AA)), (None, -3), (None, 10), (5, 1), (5, 2))

    def test_up(self):
        self.gives(("first", 4, (("s", "up"),), AA), (2, None, 5), (1, "a", 5), (11, "a", 5), (10, "ab", None))
        self.gives(("first", 3, (("n", "up"),), AA), (-3, "b", None), (10, "ab", None), (1, "a", 5))

    def test_down_with_none_among_the_worths(self):
        self.gives(("first", 10, (("n", "down"),), AA), (3, "b", 7), (1, "a", 5), (2, None, 5), (11, "a", 5),
                   (-3, "b", None), (10, "ab", None))
        self.gives(("first", 10, (("s", "down"),), AA), (-3, "b", None), (3, "b", 7), (10, "ab", None), (1, "a", 5),
                   (11, "a", 5), (2, None, 5))
        self.gives(("first", 3, (("k", "down"),), AA), (11, "a", 5), (10, "ab", None), (3, "b", 7))

    def test_ties_are_broken_by_the_next_column(self):
        self.gives(("first", 10, (("s", "up"), ("k", "down")), AA), (2, None, 5), (11, "a", 5), (1, "a", 5),
                   (10, "ab", None), (3, "b", 7), (-3, "b", None))
        self.gives(("first", 4, (("n", "down"), ("s", "up")), AA), (3, "b", 7), (2, None, 5), (1, "a", 5), (11, "a", 5))
        self.gives(("first", 4, (("n", "up"), ("k", "down")), AA), (10, "ab", None), (-3, "b", None), (11, "a", 5),
                   (2, None, 5))

    def test_ties_are_broken_by_whole_rows_rising_the_way_down_too(self):
        rows = ("pick", ("n", "s", "k"), AA)
        self.gives(("first", 2, (("n", "up"),), rows), (None, "ab", 10), (None, "b", -3))
        self.gives(("first", 4, (("n", "down"),), rows), (7, "b", 3), (5, None, 2), (5, "a", 1), (5, "a", 11))
        self.gives(("first", 4, (("s", "down"),), rows), (None, "b", -3), (7, "b", 3), (None, "ab", 10), (5, "a", 1))

    def test_rows_that_are_there_several_times(self):
        self.gives(("first", 2, (("s", "up"), ("n", "down")), ("where", ("is", "s", "a"), TWICE)), ("a", 5), ("a", 5))
        self.gives(("first", 3, (("n", "down"),), ("pick", ("n",), AA)), (7,), (5,), (5,))
        self.gives(("first", 1, (), ("where", ("is", "s", "a"), TWICE)), ("a", 5))

    def test_only_an_outmost_one_stands_as_its_order_goes(self):
        last = ("first", 3, (("k", "down"),), AA)
        self.gives(last, (11, "a", 5), (10, "ab", None), (3, "b", 7))
        self.gives(("once", last), (3, "b", 7), (10, "ab", None), (11, "a", 5))
        self.gives(("where", ("is", "s", "a"), last), (11, "a", 5))
        self.gives(("called", ("x", "y", "z"), last), (3, "b", 7), (10, "ab", None), (11, "a", 5))
        self.gives(("pick", ("s",), last), ("a",), ("ab",), ("b",))
        self.gives(("lacking", "s", "id", last, CC_AS_BB), (3, "b", 7), (10, "ab", None), (11, "a", 5))

    def test_a_first_of_a_first(self):
        self.gives(("first", 2, (("k", "up"),), ("first", 3, (("k", "down"),), AA)), (3, "b", 7), (10, "ab", None))
        self.gives(("first", 10 ** 9, (), ("first", 3, (("k", "down"),), AA)), (3, "b", 7), (10, "ab", None),
                   (11, "a", 5))


CC_AS_BB = ("where", ("is", "id", "nobody"), BB)


class AsTold(unittest.TestCase):
    def test_by_chance_each_answer_is_the_plain_one(self):
        chance = random.Random(2)
        for question in making.of_each_word(chance, 120, 9):
            store = making.store(chance, chance.choice((0, 1, 4, 7)))
            if chance.randrange(2):
                store = plain.seen(making.PLAN, store, making.rights(chance))
            told = answer(making.PLAN, question, store)
            self.assertEqual(told, plain.answer(making.PLAN, question, store), question)
            self.assertTrue(is_plain(told))

    def test_each_form_within_each_other(self):
        chance = random.Random(3)
        for outer in making.WORDS:
            for inner in making.WORDS:
                found = 0
                while found < 8:
                    question = making.question(chance, 6, outer)
                    if question[0] == outer and inner in [part[0] for part in plain.within(question)]:
                        store = making.store(chance, 6)
                        self.assertEqual(answer(making.PLAN, question, store),
                                         plain.answer(making.PLAN, question, store), question)
                        found += 1

    def test_what_is_handed_in_stays(self):
        chance = random.Random(4)
        for question in making.of_each_word(chance, 5):
            store = making.store(chance)
            held = copied((making.PLAN, question, store))
            answer(making.PLAN, question, store)
            self.assertEqual((making.PLAN, question, store), held)

    def test_the_greatest_table_and_many_forms(self):
        store = (tuple((key, "a", key // 100) for key in range(200)), (), ())
        question = AA
        for _ in range(11):
            question = ("once", question)
        self.assertEqual(answer(PLAN, question, store), store[0])
        pairs = ("join", "s", "y", AA, ("called", ("x", "y", "z"), AA))
        self.assertEqual(answer(PLAN, ("sums", ("n",), (("many", "count", None),), pairs), store),
                         ((0, 20000), (1, 20000)))


if __name__ == "__main__":
    unittest.main()
