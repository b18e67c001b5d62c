"""[10] Rights, and what is seen under them; [2] of anything, and nothing handed in is changed."""

import itertools
import random
import unittest

from standviews.answers import answer
from standviews.rights import is_right, seen
from tests import making, plain
from tests.things import Odd, Row, Text, anything, copied, is_plain, nested, shown, spoilt

PLAN = (
    ("aa", (("k", "number"), ("s", "name"), ("n", "number"))),
    ("bb", (("id", "name"), ("m", "number"))),
)
STORE = (((1, "b", 5), (2, "a", None), (3, None, 5), (10, "a", 4)), (("a", 1), ("b", None)))
IS = ("is", "s", "a")
ALL = ("k", "s", "n")


class IsRight(unittest.TestCase):
    def yes(self, *things):
        for thing in things:
            with self.subTest(thing):
                self.assertIs(is_right(PLAN, "aa", thing), True)

    def no(self, *things):
        for thing in things:
            if is_right(PLAN, "aa", thing) is not False:
                self.fail(shown(thing))

    def test_none(self):
        self.yes(None)
        self.assertIs(is_right(PLAN, "bb", None), True)

    def test_columns_in_the_table_s_order_each_once(self):
        for many in range(4):
            for names in itertools.product(ALL, repeat=many):
                good = names in list(itertools.combinations(ALL, many))
                with self.subTest(names):
                    self.assertIs(is_right(PLAN, "aa", (None, names)), good)
                    self.assertIs(is_right(PLAN, "aa", (IS, names)), good)

    def test_with_no_columns_and_with_all(self):
        self.yes((None, ()), (IS, ()), (None, ALL), (IS, ALL))

    def test_names_out_of_the_order_or_twice(self):
        self.no((None, ("s", "k")), (None, ("k", "n", "s")), (None, ("k", "k")), (None, ("k", "s", "s")),
                (IS, ("n", "k")))

    def test_columns_that_are_not_the_table_s(self):
        self.no((None, ("id",)), (None, ("k", "x")), (None, ("x", "k")), (None, ("",)), (None, (None,)),
                (None, ("aa",)))
        self.assertIs(is_right(PLAN, "bb", (None, ("id", "m"))), True)
        self.assertIs(is_right(PLAN, "bb", (None, ALL)), False)

    def test_a_check_is_one_of_the_table_s_columns_told_or_not(self):
        self.yes((IS, ("k",)), (("below", "n", 5), ("s",)), (("not", ("like", "k", "n")), ()),
                 (("is", "n", None), ("k",)))
        self.no((("is", "id", "a"), ALL), (("is", "s", 1), ALL), (("below", "s", 1), ALL), ((), ALL), (("is",), ALL),
                (("is", "k", True), ALL))
        self.assertIs(is_right(PLAN, "bb", (("is", "id", "a"), ("m",))), True)
        self.assertIs(is_right(PLAN, "bb", (IS, ("m",))), False)

    def test_numbers_of_checks_at_their_bounds(self):
        for n in (10 ** 9, -10 ** 9):
            self.yes((("is", "k", n), ()), (("below", "k", n), ALL))
        for n in (10 ** 9 + 1, -10 ** 9 - 1):
            self.no((("is", "k", n), ()), (("below", "k", n), ALL))

    def test_of_anything(self):
        self.no(*[thing for thing in anything() if thing is not None])
        self.no("none", "all", ALL, (None,), (None, ALL, None), (ALL, None), [None, ALL], Row((None, ALL)), (IS,),
                (IS, ALL, ALL), IS, (None, list(ALL)), (None, "k"), (None, Row(ALL)), (None, "ksn"), (None, None),
                (False, ALL), (None, (Text("k"),)), (list(IS), ALL), (None, {"k": 1}), (None, (("k",),)))

    def test_anything_in_the_place_of_each_part(self):
        for thing in anything():
            if thing is not None:
                self.no((thing, ALL), (("not", thing), ()))
            if not (type(thing) is tuple and not thing):
                self.no((None, thing), (IS, thing))
            self.no((None, (thing,)), (None, ("k", thing)), (IS, (thing, "n")), (thing, thing), (thing,), (thing,) * 3)

    def test_things_as_another_kind_anywhere(self):
        for right in ((None, ALL), (None, ("s",)), (("and", IS, ("below", "n", 3)), ("k", "n"))):
            for how, where, thing in spoilt(right):
                # No right at all, and no check, are told by None.
                if is_right(PLAN, "aa", thing) is not False:
                    self.fail(f"{how} at {where}: {shown(thing)}")

    def test_of_anything_as_table(self):
        for table in anything() + ["cc", "k", "a", ("aa", PLAN[0][1]), Text("aa"), ["aa"], 0, 1, b"aa", PLAN[0]]:
            for right in (None, (None, ALL), (None, ())):
                if is_right(PLAN, table, right) is not False:
                    self.fail(shown(table))

    def test_of_anything_as_both(self):
        for table in anything():
            for thing in (table, (table, table), Odd(), nested(None, lambda x: (x, ALL))):
                self.assertIs(is_right(PLAN, table, thing), False)

    def test_checks_nested_deep(self):
        self.yes((nested(IS, lambda x: ("not", x), 18), ALL))
        self.no((nested(None, lambda x: ("not", x), 18), ALL), (nested(IS, lambda x: ["not", x], 18), ALL))

    def test_what_is_handed_in_stays(self):
        inner = ["k", ["s"]]
        self.no((None, inner), (inner, ALL), inner)
        self.assertEqual(inner, ["k", ["s"]])


class Seen(unittest.TestCase):
    def gives(self, right, *rows):
        for rights, told in (((right, None), (rows, ())), ((right, (None, ("m",))), (rows, ((None, None), (None, 1))))):
            with self.subTest(rights):
                self.assertEqual(seen(PLAN, STORE, rights), told)
                self.assertTrue(is_plain(seen(PLAN, STORE, rights)))

    def test_none(self):
        self.gives(None)

    def test_all_rows_and_columns(self):
        self.gives((None, ALL), *STORE[0])

    def test_some_columns(self):
        self.gives((None, ("k", "n")), (1, None, 5), (2, None, None), (3, None, 5), (10, None, 4))
        self.gives((None, ("s",)), (None, None, None), (None, "a", None), (None, "a", None), (None, "b", None))
        self.gives((None, ("s", "n")), (None, None, 5), (None, "a", None), (None, "a", 4), (None, "b", 5))

    def test_no_columns(self):
        self.gives((None, ()), *[(None, None, None)] * 4)
        self.gives((IS, ()), *[(None, None, None)] * 2)

    def test_some_rows(self):
        self.gives((IS, ALL), (2, "a", None), (10, "a", 4))
        self.gives((("below", "k", 3), ALL), (1, "b", 5), (2, "a", None))
        self.gives((("is", "k", 99), ALL))

    def test_a_check_on_a_column_that_is_not_told(self):
        self.gives((IS, ("n",)), (None, None, None), (None, None, 4))
        self.gives((("below", "n", 5), ("k", "s")), (10, "a", None))
        self.gives((("is", "s", None), ("k",)), (3, None, None))

    def test_both_tables_each_by_its_own(self):
        self.assertEqual(seen(PLAN, STORE, (None, (("is", "m", None), ("id",)))), ((), (("b", None),)))
        self.assertEqual(seen(PLAN, STORE, ((IS, ("k",)), (None, ()))),
                         (((2, None, None), (10, None, None)), ((None, None),) * 2))
        self.assertEqual(seen(PLAN, ((), ()), ((None, ALL), (None, ("id", "m")))), ((), ()))

    def test_a_person_is_answered_over_what_is_seen(self):
        over = seen(PLAN, STORE, ((None, ("s", "n")), (None, ("id",))))
        self.assertEqual(answer(PLAN, ("all", "aa"), over),
                         ((None, None, 5), (None, "a", None), (None, "a", 4), (None, "b", 5)))
        self.assertEqual(answer(PLAN, ("sums", ("k",), (("x", "count", None),), ("all", "aa")), over), ((None, 4),))
        self.assertEqual(answer(PLAN, ("where", ("is", "k", 1), ("all", "aa")), over), ())
        self.assertEqual(answer(PLAN, ("join", "s", "id", ("all", "aa"), ("all", "bb")), over),
                         ((None, "a", None, "a", None), (None, "a", 4, "a", None), (None, "b", 5, "b", None)))
        self.assertEqual(answer(PLAN, ("first", 1, (("m", "down"),), ("all", "bb")), over), (("a", None),))

    def test_by_chance_it_is_what_is_plainly_seen(self):
        chance = random.Random(5)
        for _ in range(300):
            store, rights = making.store(chance), making.rights(chance)
            self.assertTrue(all(is_right(making.PLAN, table, right)
                                for (table, _), right in zip(making.PLAN, rights)))
            self.assertEqual(seen(making.PLAN, store, rights), plain.seen(making.PLAN, store, rights))

    def test_what_is_handed_in_stays(self):
        rights = ((IS, ("k",)), (None, ()))
        held = copied((PLAN, STORE, rights))
        seen(PLAN, STORE, rights)
        self.assertEqual((PLAN, STORE, rights), held)


if __name__ == "__main__":
    unittest.main()
