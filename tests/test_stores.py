"""[7] The store, its dealings, and what is between two; [2] refusals that change nothing; [3] rising bags."""

import random
import unittest

from standviews.errors import NoDeal
from standviews.stores import dealt, empty, net
from tests.things import Odd, Row, Text, Whole, anything, copied, is_plain, nested

PLAN = (
    ("aa", (("k", "number"), ("abcdefgh", "name"))),
    ("bb", (("key", "name"), ("n", "number"), ("m", "number"))),
)
STORE = (((-3, "z"), (1, None), (2, "a"), (10, "b")), (("a", 1, None), ("b", None, 2)))


class Empty(unittest.TestCase):
    def test_it_has_an_empty_bag_for_each_table(self):
        self.assertEqual(empty(PLAN), ((), ()))
        self.assertEqual(empty(PLAN[:1]), ((),))
        self.assertTrue(is_plain(empty(PLAN)))


class Dealt(unittest.TestCase):
    def gives(self, dealing, *bags):
        told = dealt(PLAN, STORE, dealing)
        self.assertEqual(told, bags)
        self.assertTrue(is_plain(told))

    def test_an_empty_dealing(self):
        self.gives((), *STORE)
        self.assertEqual(dealt(PLAN, empty(PLAN), ()), ((), ()))

    def test_a_put_of_a_new_key(self):
        self.gives((("put", "aa", (3, "c")),), ((-3, "z"), (1, None), (2, "a"), (3, "c"), (10, "b")), STORE[1])
        self.gives((("put", "bb", ("aa", 1, 1)),), STORE[0], (("a", 1, None), ("aa", 1, 1), ("b", None, 2)))

    def test_a_put_of_a_key_that_is_there(self):
        self.gives((("put", "aa", (1, "y")),), ((-3, "z"), (1, "y"), (2, "a"), (10, "b")), STORE[1])
        self.gives((("put", "aa", (2, None)),), ((-3, "z"), (1, None), (2, None), (10, "b")), STORE[1])
        self.gives((("put", "bb", ("a", None, None)),), STORE[0], (("a", None, None), ("b", None, 2)))

    def test_a_put_of_a_row_that_is_there(self):
        self.gives((("put", "aa", (2, "a")),), *STORE)

    def test_a_drop(self):
        self.gives((("drop", "aa", 1),), ((-3, "z"), (2, "a"), (10, "b")), STORE[1])
        self.gives((("drop", "bb", "b"),), STORE[0], (("a", 1, None),))

    def test_changes_go_one_after_the_other(self):
        self.gives((("put", "aa", (5, "x")), ("put", "aa", (5, "y"))), STORE[0][:3] + ((5, "y"), (10, "b")), STORE[1])
        self.gives((("put", "aa", (5, "x")), ("drop", "aa", 5)), *STORE)
        self.gives((("drop", "aa", 1), ("put", "aa", (1, "y")), ("drop", "bb", "a"), ("drop", "bb", "b")),
                   ((-3, "z"), (1, "y"), (2, "a"), (10, "b")), ())

    def test_tables_of_one_key_are_their_own(self):
        plan = (("a", (("k", "number"),)), ("b", (("k", "number"),)))
        store = dealt(plan, empty(plan), (("put", "a", (1,)), ("put", "b", (1,)), ("put", "b", (2,))))
        self.assertEqual(store, (((1,),), ((1,), (2,))))
        self.assertEqual(dealt(plan, store, (("drop", "b", 1),)), (((1,),), ((2,),)))

    def test_bags_rise_however_rows_come(self):
        keys = [10, 9, -1, 0, -10, 10 ** 9, 2, -10 ** 9, 100]
        store = dealt(PLAN, empty(PLAN), tuple(("put", "aa", (key, None)) for key in keys))
        self.assertEqual(store, (tuple((key, None) for key in sorted(keys)), ()))
        names = ["b", "ab", "abcdefgh", "a", "z", "aa", "ba"]
        store = dealt(PLAN, empty(PLAN), tuple(("put", "bb", (name, None, None)) for name in names))
        self.assertEqual(store, ((), tuple((name, None, None) for name in sorted(names))))

    def test_numbers_and_names_at_their_ends(self):
        dealing = (("put", "aa", (10 ** 9, "abcdefgh")), ("put", "aa", (-10 ** 9, "a")),
                   ("put", "bb", ("abcdefgh", 10 ** 9, -10 ** 9)))
        self.assertEqual(dealt(PLAN, empty(PLAN), dealing),
                         (((-10 ** 9, "a"), (10 ** 9, "abcdefgh")), (("abcdefgh", 10 ** 9, -10 ** 9),)))
        self.gives(dealing + (("drop", "aa", 10 ** 9), ("drop", "aa", -10 ** 9), ("drop", "bb", "abcdefgh")), *STORE)

    def test_what_is_handed_in_stays(self):
        store, dealing = copied(STORE), (("put", "aa", (1, "y")), ("drop", "bb", "a"))
        dealt(PLAN, store, dealing)
        self.assertEqual((store, dealing), (STORE, (("put", "aa", (1, "y")), ("drop", "bb", "a"))))
        inner = [1, ["y"]]
        with self.assertRaises(NoDeal):
            dealt(PLAN, store, (("drop", "aa", 1), ("put", "aa", inner)))
        self.assertEqual((store, inner), (STORE, [1, ["y"]]))

    def test_of_random_scripts_it_is_what_a_dict_would_hold(self):
        chance = random.Random(7)
        for _ in range(60):
            store, plain = empty(PLAN), {}
            for _ in range(12):
                dealing, behind, at = self.random_dealing(chance, plain)
                if at is None:
                    store, plain = dealt(PLAN, store, dealing), behind
                else:
                    with self.assertRaises(NoDeal) as caught:
                        dealt(PLAN, store, dealing)
                    self.assertEqual(caught.exception.at, at)
                rows = sorted(plain.items())
                self.assertEqual(store, (tuple(row for key, row in rows), ()))

    def random_dealing(self, chance, plain):
        """A dealing, what plain is behind it, and at which it is refused."""
        dealing, behind, refused = [], dict(plain), None
        for at in range(chance.randrange(6)):
            key = chance.randrange(-4, 5)
            if chance.randrange(3):
                row = (key, chance.choice(("a", "b", None)))
                dealing.append(("put", "aa", row))
                behind[key] = row
            else:
                dealing.append(("drop", "aa", key))
                if behind.pop(key, None) is None and refused is None:
                    refused = at
        return tuple(dealing), behind, refused


GOOD = ("put", "aa", (4, "d"))
BAD_CHANGES = [
    ("drop", "aa", 4), ("drop", "aa", 0), ("drop", "bb", "ab"), ("drop", "aa", None), ("drop", "bb", None),
    ("drop", "aa", "a"), ("drop", "bb", 1), ("drop", "aa", True), ("drop", "aa", (1,)), ("drop", "aa", [1]),
    ("drop", "aa", (1, None)), ("drop", "cc", 1), ("drop", "aa", Whole(1)), ("drop", "bb", Text("a")),
    ("drop", "aa", 10 ** 9 + 1), ("drop", "bb", "abcdefghi"), ("drop", "bb", ""), ("drop", "aa"),
    ("drop", "aa", 1, 1), ("drop",),
    ("put", "cc", (1, "a")), ("put", "aa", (None, "a")), ("put", "aa", (1,)), ("put", "aa", (1, "a", 1)),
    ("put", "aa", ()),
    ("put", "aa", ("a", "a")), ("put", "aa", (1, 1)), ("put", "aa", (True, "a")), ("put", "aa", (1, False)),
    ("put", "bb", ("a", 1, True)), ("put", "bb", (None, 1, 1)), ("put", "aa", [1, "a"]), ("put", "aa", (1, ["a"])),
    ("put", "aa", (10 ** 9 + 1, "a")), ("put", "aa", (-10 ** 9 - 1, "a")), ("put", "aa", (1, "abcdefghi")),
    ("put", "bb", ("a", 10 ** 9 + 1, 1)), ("put", "bb", ("abcdefghi", 1, 1)), ("put", "bb", ("", 1, 1)),
    ("put", "aa", Row((1, "a"))), ("put", "aa", (Whole(1), "a")), ("put", "aa", (1, Text("a"))), ("put", "aa", 1),
    ("put", "aa"), ("put", "aa", (1, "a"), 1), ("put",), ("Put", "aa", (1, "a")), ("add", "aa", (1, "a")),
    ("", "aa", 1),
    (Text("put"), "aa", (1, "a")), ("put", Text("aa"), (1, "a")), (Text("drop"), "aa", 1), ["put", "aa", (1, "a")],
    Row(("put", "aa", (1, "a"))), ("aa", "put", (1, "a")), ("put", ["aa"], (1, "a")), ("drop", ("aa",), 1),
]


class Refused(unittest.TestCase):
    def refused(self, at, dealing):
        store = copied(STORE)
        with self.assertRaises(NoDeal) as caught:
            dealt(PLAN, store, dealing)
        self.assertEqual(caught.exception.at, at)
        self.assertIs(type(caught.exception.at), type(at))
        self.assertEqual(store, STORE)

    def test_each_wrong_change(self):
        for change in BAD_CHANGES:
            with self.subTest(change):
                self.refused(0, (change,))

    def test_at_the_first_a_middle_the_last(self):
        for change in BAD_CHANGES:
            if change == ("drop", "aa", 4):
                continue
            with self.subTest(change):
                self.refused(0, (change, GOOD, GOOD))
                self.refused(1, (GOOD, change, GOOD))
                self.refused(2, (GOOD, GOOD, change))

    def test_at_the_first_of_several(self):
        gone = ("drop", "aa", 99)
        self.refused(0, (gone, ("put", "cc", (1,))))
        self.refused(0, (("put", "cc", (1,)), gone))
        self.refused(1, (GOOD, gone, None, gone))
        self.refused(1, (GOOD, None, gone, None))

    def test_a_drop_of_what_is_not_there(self):
        self.refused(0, (("drop", "aa", 4), GOOD))
        self.refused(0, (("drop", "aa", 4),))

    def test_a_drop_of_what_a_change_ahead_dropped(self):
        self.refused(1, (("drop", "aa", 1), ("drop", "aa", 1)))
        self.refused(3, (GOOD, ("drop", "aa", 4), GOOD[:2] + ((5, None),), ("drop", "aa", 4)))
        self.refused(2, (("drop", "bb", "a"), ("drop", "bb", "b"), ("drop", "bb", "a")))

    def test_a_drop_of_another_table_s_key(self):
        plan = (("a", (("k", "number"),)), ("b", (("k", "number"),)))
        with self.assertRaises(NoDeal) as caught:
            dealt(plan, (((1,),), ()), (("drop", "b", 1),))
        self.assertEqual(caught.exception.at, 0)

    def test_what_is_no_tuple(self):
        for thing in anything() + [list((GOOD,)), Row(), Row((GOOD,)), "put", {}, Odd(), 0, 1]:
            if type(thing) is not tuple:
                self.refused(None, thing)

    def test_of_anything(self):
        for thing in anything():
            self.refused(0, (thing,))
            self.refused(1, (GOOD, thing))
            self.refused(0, (("put", "aa", thing),))
            self.refused(0, (("put", thing, (1, "a")),))
            self.refused(0, ((thing, "aa", (1, "a")),))
            self.refused(0, ((thing, "aa", 1),))
            self.refused(0, (("drop", thing, 1),))
            self.refused(0, (("put", "aa", (thing, None)),))
            self.refused(0, (("drop", "aa", thing),))
            self.refused(0, (("drop", "aa", (thing,)),))
        self.refused(0, nested(GOOD, lambda x: (x,)))

    def test_a_tuple_of_anything_deep(self):
        for thing in anything():
            if type(thing) is tuple and thing:
                self.refused(0, thing)


class Net(unittest.TestCase):
    def gives(self, one, other, *told):
        self.assertEqual(net(PLAN, one, other), told)
        self.assertTrue(is_plain(net(PLAN, one, other)))
        self.assertEqual(net(PLAN, other, one), tuple((come, gone) for gone, come in told))

    def test_between_a_store_and_itself(self):
        self.gives(STORE, STORE, ((), ()), ((), ()))
        self.gives(STORE, copied(STORE), ((), ()), ((), ()))
        self.gives(empty(PLAN), empty(PLAN), ((), ()), ((), ()))

    def test_from_nothing(self):
        self.gives(empty(PLAN), STORE, ((), STORE[0]), ((), STORE[1]))

    def test_rows_that_come_and_go(self):
        other = dealt(PLAN, STORE, (("drop", "aa", 1), ("put", "aa", (7, "s")), ("put", "bb", ("c", 0, 0))))
        self.gives(STORE, other, (((1, None),), ((7, "s"),)), ((), (("c", 0, 0),)))

    def test_a_row_in_the_place_of_another_is_one_gone_and_one_come(self):
        other = dealt(PLAN, STORE, (("put", "bb", ("a", 1, 1)), ("put", "aa", (2, "a"))))
        self.gives(STORE, other, ((), ()), ((("a", 1, None),), (("a", 1, 1),)))

    def test_bags_rise(self):
        other = dealt(PLAN, empty(PLAN), tuple(("put", "aa", (key, "q")) for key in (10, -3, 9, 2, 1)))
        self.gives(STORE, other, (STORE[0], ((-3, "q"), (1, "q"), (2, "q"), (9, "q"), (10, "q"))), (STORE[1], ()))

    def test_what_is_handed_in_stays(self):
        one, other = copied(STORE), ((), STORE[1][:1])
        net(PLAN, one, other)
        self.assertEqual((one, other), (STORE, ((), STORE[1][:1])))


if __name__ == "__main__":
    unittest.main()
