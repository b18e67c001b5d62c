"""[8] Questions and their columns; [2] of anything, and nothing handed in is changed."""

import random
import unittest

from standviews.questions import columns_of, is_question
from tests import making, plain
from tests.things import Odd, Row, Text, Whole, anything, copied, is_plain, nested, shown, spoilt

PLAN = (
    ("aa", (("k", "number"), ("s", "name"), ("n", "number"))),
    ("bb", (("id", "name"), ("k", "number"))),
    ("cc", (("key", "number"), ("abcdefgh", "name"))),
)
AA, BB, CC = ("all", "aa"), ("all", "bb"), ("all", "cc")
COUNT = ("many", "count", None)
# One of each form, over any questions of these columns, whose own columns are these again.
K, S, N = PLAN[0][1]
SAME = {
    "where": lambda q: ("where", ("below", "k", 5), q),
    "pick": lambda q: ("pick", ("k", "s", "n"), q),
    "called": lambda q: ("called", ("k", "s", "n"), q),
    "join": lambda q: ("pick", ("k", "s", "n"), ("join", "n", "x", q, ("called", ("x", "y", "z"), q))),
    "sums": lambda q: ("sums", ("k", "s"), (("n", "sum", "n"),), q),
    "once": lambda q: ("once", q),
    "lacking": lambda q: ("lacking", "k", "n", q, q),
    "first": lambda q: ("first", 3, (("s", "down"), ("k", "up")), q),
}


class Forms(unittest.TestCase):
    def told(self, question, *columns):
        """Each column is written name:kind, its kind by its first two letters."""
        with self.subTest(question):
            kinds = {"nu": "number", "na": "name"}
            told = tuple((name, kinds[kind]) for name, kind in [column.split(":") for column in columns])
            self.assertIs(is_question(PLAN, question), True)
            self.assertEqual(columns_of(PLAN, question), told)
            self.assertTrue(is_plain(columns_of(PLAN, question)))

    def no(self, *things):
        for thing in things:
            if is_question(PLAN, thing) is not False:
                self.fail(shown(thing))

    def test_all(self):
        self.told(AA, "k:nu", "s:na", "n:nu")
        self.told(BB, "id:na", "k:nu")
        self.told(CC, "key:nu", "abcdefgh:na")
        self.no(("all", "dd"), ("all", ""), ("all", "k"), ("all", None), ("all", AA), ("all", 0), ("all", True))

    def test_where(self):
        self.told(("where", ("is", "s", None), AA), "k:nu", "s:na", "n:nu")
        self.told(("where", ("and", ("like", "k", "n"), ("not", ("below", "n", 0))), AA), "k:nu", "s:na", "n:nu")
        self.no(("where", ("is", "id", None), AA), ("where", ("is", "s", 1), AA), ("where", ("like", "k", "s"), AA),
                ("where", None, AA), ("where", (), AA), ("where", AA, AA), ("where", ("is", "k", 1), "aa"),
                ("where", AA, ("is", "k", 1)))

    def test_numbers_of_checks_at_their_bounds(self):
        for n in (10 ** 9, -10 ** 9, 0):
            self.told(("where", ("is", "k", n), BB), "id:na", "k:nu")
            self.told(("where", ("below", "k", n), BB), "id:na", "k:nu")
            self.told(("where", ("below", "t", n), ("sums", (), (("t", "sum", "k"),), BB)), "t:nu")
        for n in (10 ** 9 + 1, -10 ** 9 - 1):
            self.no(("where", ("is", "k", n), BB), ("where", ("below", "k", n), BB),
                    ("where", ("below", "t", n), ("sums", (), (("t", "sum", "k"),), BB)),
                    ("where", ("is", "t", n), ("sums", (), (("t", "count", None),), BB)))

    def test_checks_are_of_the_columns_just_within(self):
        inner = ("called", ("a", "b"), BB)
        self.told(("where", ("is", "a", "x"), inner), "a:na", "b:nu")
        self.no(("where", ("is", "id", "x"), inner), ("where", ("is", "k", 1), ("pick", ("id",), BB)))
        self.told(("called", ("a", "b"), ("where", ("is", "id", "x"), BB)), "a:na", "b:nu")

    def test_pick(self):
        self.told(("pick", ("k",), AA), "k:nu")
        self.told(("pick", ("n", "s"), AA), "n:nu", "s:na")
        self.told(("pick", ("s", "n", "k"), AA), "s:na", "n:nu", "k:nu")
        self.no(("pick", (), AA), ("pick", ("k", "k"), AA), ("pick", ("id",), AA), ("pick", ("k", "id"), AA),
                ("pick", "k", AA), ("pick", ["k"], AA), ("pick", ("k", None), AA), ("pick", None, AA),
                ("pick", (("k",),), AA), ("pick", ("s", "k", "s"), AA))

    def test_called(self):
        self.told(("called", ("a", "b"), BB), "a:na", "b:nu")
        self.told(("called", ("abcdefgh", "z"), BB), "abcdefgh:na", "z:nu")
        self.told(("called", ("id", "k"), BB), "id:na", "k:nu")
        self.no(("called", ("a",), BB), ("called", ("a", "b", "c"), BB), ("called", (), BB), ("called", ("a", "a"), BB),
                ("called", ("a", "abcdefghi"), BB), ("called", ("a", ""), BB), ("called", ("a", "B"), BB),
                ("called", ["a", "b"], BB), ("called", "ab", BB), ("called", ("a", None), BB))

    def test_called_by_names_of_the_other_columns(self):
        self.told(("called", ("k", "id"), BB), "k:na", "id:nu")
        self.told(("called", ("s", "n", "k"), AA), "s:nu", "n:na", "k:nu")
        self.told(("where", ("is", "k", "x"), ("called", ("k", "id"), BB)), "k:na", "id:nu")
        self.no(("where", ("is", "k", 1), ("called", ("k", "id"), BB)))

    def test_join(self):
        self.told(("join", "k", "key", BB, CC), "id:na", "k:nu", "key:nu", "abcdefgh:na")
        self.told(("join", "abcdefgh", "id", CC, BB), "key:nu", "abcdefgh:na", "id:na", "k:nu")
        self.told(("join", "n", "key", AA, CC), "k:nu", "s:na", "n:nu", "key:nu", "abcdefgh:na")
        self.no(("join", "key", "k", BB, CC), ("join", "k", "abcdefgh", BB, CC), ("join", "id", "key", BB, CC),
                ("join", "x", "key", BB, CC), ("join", "k", "x", BB, CC), ("join", "x", "x", BB, CC),
                ("join", None, "key", BB, CC), ("join", "k", None, BB, CC), ("join", None, None, BB, CC),
                ("join", ("k",), ("key",), BB, CC))

    def test_join_of_columns_called_alike(self):
        self.no(("join", "k", "k", AA, BB), ("join", "s", "id", AA, BB), ("join", "k", "k", AA, AA))
        self.told(("join", "k", "b", AA, ("called", ("a", "b"), BB)), "k:nu", "s:na", "n:nu", "a:na", "b:nu")
        self.told(("join", "s", "id", ("pick", ("s",), AA), BB), "s:na", "id:na", "k:nu")
        self.no(("join", "s", "id", AA, ("called", ("id", "n"), BB)))

    def test_sums(self):
        self.told(("sums", ("s",), (COUNT,), AA), "s:na", "many:nu")
        self.told(("sums", (), (COUNT,), AA), "many:nu")
        self.told(("sums", ("n", "k"), (("a", "sum", "k"), ("b", "least", "s"), ("c", "most", "s"),
                                        ("d", "least", "n"), ("e", "most", "k"), COUNT), AA),
                  "n:nu", "k:nu", "a:nu", "b:na", "c:na", "d:nu", "e:nu", "many:nu")
        self.told(("sums", ("s",), (("k", "count", None), ("n", "sum", "n")), AA), "s:na", "k:nu", "n:nu")

    def test_wrong_sums(self):
        wrong = [(), None, COUNT, [COUNT], ("count",), (("many", "count", "k"),), (("many", "count"),),
                 (("many", "count", None, None),), (("", "count", None),), (("abcdefghi", "count", None),),
                 ((None, "count", None),), (("many", "counts", None),), (("many", "Count", None),),
                 (("many", None, None),), (("many", "sum", None),), (("many", "sum", "s"),), (("many", "sum", "id"),),
                 (("many", "least", None),), (("many", "least", "id"),), (("many", "most", "x"),),
                 (("many", "most", None),), (("many", "sum", ("n",)),), (COUNT, COUNT),
                 (COUNT, ("many", "sum", "k")), (COUNT, None), (None, COUNT), (COUNT, ["x", "count", None]),
                 (("many", "mean", "n"),), (("many", "", "n"),)]
        for sums in wrong:
            self.no(("sums", ("s",), sums, AA), ("sums", (), sums, AA))
        self.no(("sums", ("s",), (("s", "count", None),), AA), ("sums", ("k", "n"), (COUNT, ("n", "most", "s")), AA))

    def test_wrong_names_of_sums(self):
        for names in (("s", "s"), ("x",), ("s", "x"), ("many",), None, "s", ["s"], (None,), ("",), ("k", "n", "k")):
            self.no(("sums", names, (COUNT,), AA))

    def test_once(self):
        self.told(("once", AA), "k:nu", "s:na", "n:nu")
        self.no(("once", "aa"), ("once", AA, AA), ("once",), ("once", None), ("once", ("aa",)))

    def test_lacking(self):
        self.told(("lacking", "k", "key", BB, CC), "id:na", "k:nu")
        self.told(("lacking", "k", "k", AA, BB), "k:nu", "s:na", "n:nu")
        self.told(("lacking", "k", "n", AA, AA), "k:nu", "s:na", "n:nu")
        self.told(("lacking", "abcdefgh", "id", CC, BB), "key:nu", "abcdefgh:na")
        self.no(("lacking", "id", "key", BB, CC), ("lacking", "k", "abcdefgh", BB, CC),
                ("lacking", "key", "k", BB, CC), ("lacking", "x", "key", BB, CC), ("lacking", "k", "x", BB, CC),
                ("lacking", None, None, BB, CC), ("lacking", "x", "x", BB, CC))

    def test_first(self):
        for many in (1, 2, 10 ** 9):
            self.told(("first", many, (), AA), "k:nu", "s:na", "n:nu")
        self.told(("first", 1, (("s", "up"),), AA), "k:nu", "s:na", "n:nu")
        self.told(("first", 1, (("n", "down"), ("s", "up"), ("k", "down")), AA), "k:nu", "s:na", "n:nu")
        self.no(*[("first", many, (), AA) for many in (0, -1, 10 ** 9 + 1, None, True, False, "1", (1,), Whole(1))])

    def test_wrong_orders(self):
        wrong = [None, "up", ("s", "up"), (("s",),), (("s", "up", "up"),), (("x", "up"),), ((None, "up"),),
                 (("s", "Up"),), (("s", "above"),), (("s", ""),), (("s", None),), (("s", True),), (("up", "s"),),
                 (("s", "up"), ("s", "up")), (("s", "up"), ("k", "up"), ("s", "down")), [], [("s", "up")],
                 (["s", "up"],), (("s", "up"), None), ("s",), ((),), ("su",)]
        for order in wrong:
            self.no(("first", 1, order, AA))

    def test_of_one_sided_forms_the_columns_of_what_is_within_count(self):
        self.no(("first", 1, (("k", "up"),), ("pick", ("id",), BB)), ("pick", ("k",), ("pick", ("id",), BB)),
                ("sums", ("k",), (COUNT,), ("pick", ("id",), BB)),
                ("sums", ("id",), (("a", "sum", "k"),), ("pick", ("id",), BB)))
        self.told(("pick", ("many",), ("sums", ("id",), (COUNT,), BB)), "many:nu")
        self.told(("first", 1, (("many", "down"),), ("sums", ("id",), (COUNT,), BB)), "id:na", "many:nu")
        self.told(("sums", ("many",), (("k", "most", "id"),), ("sums", ("id",), (COUNT,), BB)), "many:nu", "k:na")


class Within(unittest.TestCase):
    def test_each_form_within_each_other(self):
        for outer, made in SAME.items():
            for inner, other in SAME.items():
                with self.subTest(f"{outer} of {inner}"):
                    question = made(other(AA))
                    self.assertIs(is_question(PLAN, question), True)
                    self.assertEqual(columns_of(PLAN, question), (K, S, N))
                    self.assertIs(is_question(PLAN, made(other(("all", "dd")))), False)

    def test_questions_by_chance_have_the_columns_told(self):
        for question in making.of_each_word(random.Random(1), 60, 8):
            self.assertIs(is_question(making.PLAN, question), True)
            self.assertEqual(columns_of(making.PLAN, question), plain.columns(making.PLAN, question))

    def test_sides_are_both_questions(self):
        for bad in (None, "aa", ("all", "dd"), ("once", ("all", "dd")), ["all", "cc"], (), ("see", "cc", None)):
            for word in ("join", "lacking"):
                self.assertIs(is_question(PLAN, (word, "k", "key", BB, bad)), False)
                self.assertIs(is_question(PLAN, (word, "key", "k", bad, BB)), False)

    def test_nested_twenty_deep(self):
        for word in ("where", "pick", "called", "sums", "once", "first"):
            with self.subTest(word):
                self.assertIs(is_question(PLAN, nested(AA, SAME[word], 19)), True)
                self.assertIs(is_question(PLAN, nested(("all", "dd"), SAME[word], 19)), False)
                self.assertIs(is_question(PLAN, nested(None, SAME[word], 20)), False)
                self.assertIs(is_question(PLAN, nested([AA], SAME[word], 18)), False)


class Anything(unittest.TestCase):
    def no(self, *things):
        for thing in things:
            if is_question(PLAN, thing) is not False:
                self.fail(shown(thing))

    def test_of_anything(self):
        self.no(*anything())
        self.no(AA[0], list(AA), Row(AA), (Text("all"), "aa"), ("all", Text("aa")), ["all", "aa"], {"all": "aa"},
                ("All", "aa"), ("all",), ("all", "aa", None), ("aa", "all"), ("where", AA), ("join", "k", "key", BB),
                ("sums", ("s",), AA), ("first", 1, AA), ("lacking", "k", "k", AA), ("pick", AA), ("called", AA),
                ("some", "aa"), ("", "aa"), (None, "aa"), (Odd(), "aa"), ("where", ("is", "k", 1), AA, AA))

    def test_anything_in_the_place_of_each_part(self):
        for question in [AA] + [made(AA) for made in SAME.values()]:
            for thing in anything():
                for at in range(len(question)):
                    # No order, and no names of groups, may be there.
                    if question[0] in ("first", "sums") and type(thing) is tuple and not thing:
                        continue
                    self.no(question[:at] + (thing,) + question[at + 1:])

    def test_anything_in_the_place_of_a_part_of_a_part(self):
        for thing in anything():
            self.no(("pick", ("k", thing), AA), ("called", ("a", thing), BB), ("sums", (thing,), (COUNT,), AA),
                    ("sums", (), (thing,), AA), ("sums", (), (COUNT, thing), AA), ("first", 1, (thing,), AA),
                    ("first", 1, ((thing, "up"),), AA), ("first", 1, (("s", thing),), AA),
                    ("where", ("not", thing), AA), ("where", ("is", thing, None), AA))
            if thing is not None:
                self.no(("sums", (), (("many", "count", thing),), AA), ("where", ("is", "k", thing), AA))
            self.no(("sums", (), ((thing, "count", None),), AA))
            self.no(("sums", (), (("many", thing, None),), AA), ("sums", (), (("many", thing, "n"),), AA),
                    ("sums", (), (("many", "sum", thing),), AA), ("sums", (), (("many", "least", thing),), AA))

    def test_things_as_another_kind_anywhere(self):
        questions = [AA] + [made(other(AA)) for made in SAME.values() for other in SAME.values()]
        for question in questions:
            for how, where, thing in spoilt(question):
                if is_question(PLAN, thing) is not False:
                    self.fail(f"{how} at {where}: {shown(thing)}")

    def test_what_is_asked_of_shares_of_itself(self):
        self.no(nested(None, lambda x: ("join", x, x, x, x)), nested(AA, lambda x: ("join", "k", "k", x, x), 19),
                nested("aa", lambda x: ("lacking", "k", "k", x, x)))

    def test_a_piece_is_no_question(self):
        see = ("see", "aa", None)
        self.no(see, ("see", "aa", (None, ("k",))), ("see", "aa"), *[made(see) for made in SAME.values()],
                ("lacking", "k", "k", AA, see), ("lacking", "k", "k", see, AA))

    def test_what_is_handed_in_stays(self):
        inner = ["k", ["s"]]
        thing = ["where", ("is", "k", inner), AA]
        held = copied(thing)
        self.no(thing, ("where", thing, AA), ("pick", inner, AA), ("sums", inner, [inner], AA), ("first", 1, inner, AA))
        self.assertEqual(thing, held)
        question = SAME["join"](SAME["sums"](AA))
        held, plan = copied(question), copied(PLAN)
        columns_of(plan, question)
        self.assertEqual((question, plan), (held, PLAN))

    def test_of_a_plan_of_one_table(self):
        plan = (("a", (("b", "name"),)),)
        self.assertIs(is_question(plan, ("all", "a")), True)
        self.assertEqual(columns_of(plan, ("once", ("all", "a"))), (("b", "name"),))
        self.assertIs(is_question(plan, AA), False)


if __name__ == "__main__":
    unittest.main()
