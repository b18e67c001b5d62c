"""[25] How worths, bags, questions, pieces, rights and entries are written."""

import random
import unittest

from standviews.showing import show_bag, show_entry, show_question, show_right, show_worth
from tests import making, plain
from tests.things import copied

AA, BB = ("all", "aa"), ("all", "bb")
IS, BELOW, LIKE = ("is", "k", 1), ("below", "n", -5), ("like", "k", "n")


class Shown(unittest.TestCase):
    def is_text(self, told, text):
        with self.subTest(text):
            self.assertEqual(told, text)
            self.assertIs(type(told), str)


class Worths(Shown):
    def test_worths(self):
        for worth, text in ((None, "~"), (0, "0"), (7, "7"), (-7, "-7"), (10, "10"), (10 ** 9, "1000000000"),
                            (-10 ** 9, "-1000000000"), (10 ** 15, "1000000000000000"), ("a", "a"),
                            ("abcdefgh", "abcdefgh"), ("none", "none")):
            self.is_text(show_worth(worth), text)

    def test_bags(self):
        self.is_text(show_bag(()), "-")
        self.is_text(show_bag(((1,),)), "1")
        self.is_text(show_bag(((None,),)), "~")
        self.is_text(show_bag(((-1, "a", None),)), "-1,a,~")
        self.is_text(show_bag(((None, None), (1, "b"), (1, "b"), (20, "a"))), "~,~;1,b;1,b;20,a")

    def test_rows_stand_as_told_where_no_bag_is_handed_in(self):
        self.is_text(show_bag(((3,), (1,), (2,))), "3;1;2")


class Checks(Shown):
    def shown(self, check, text):
        self.is_text(show_question(("where", check, AA)), f"where {text} all aa")
        self.is_text(show_right((check, ())), f"rows {text} 0")

    def test_each_form(self):
        self.shown(IS, "is k 1")
        self.shown(("is", "k", None), "is k ~")
        self.shown(("is", "k", -10 ** 9), "is k -1000000000")
        self.shown(("is", "s", "abc"), "is s abc")
        self.shown(("is", "s", None), "is s ~")
        self.shown(BELOW, "below n -5")
        self.shown(("below", "n", 0), "below n 0")
        self.shown(LIKE, "like k n")
        self.shown(("not", IS), "not is k 1")
        self.shown(("and", IS, BELOW), "and is k 1 below n -5")
        self.shown(("or", LIKE, IS), "or like k n is k 1")

    def test_within_each_other(self):
        self.shown(("and", ("or", IS, ("not", LIKE)), ("not", ("and", BELOW, IS))),
                   "and or is k 1 not like k n not and below n -5 is k 1")


class Questions(Shown):
    def shown(self, question, text):
        self.is_text(show_question(question), text)

    def test_each_form(self):
        self.shown(AA, "all aa")
        self.shown(("where", IS, AA), "where is k 1 all aa")
        self.shown(("pick", ("n",), AA), "pick 1 n all aa")
        self.shown(("pick", ("n", "k"), AA), "pick 2 n k all aa")
        self.shown(("called", ("x", "y", "z"), AA), "called 3 x y z all aa")
        self.shown(("join", "s", "id", AA, BB), "join s id all aa all bb")
        self.shown(("once", AA), "once all aa")
        self.shown(("lacking", "s", "id", AA, BB), "lacking s id all aa all bb")

    def test_sums(self):
        self.shown(("sums", (), (("x", "count", None),), AA), "sums 0 1 x count all aa")
        self.shown(("sums", ("s", "k"), (("x", "sum", "n"), ("y", "least", "s"), ("z", "most", "k"),
                                         ("w", "count", None)), AA),
                   "sums 2 s k 4 x sum n y least s z most k w count all aa")
        self.shown(("sums", ("sum",), (("count", "count", None), ("least", "most", "most")), AA),
                   "sums 1 sum 2 count count least most most all aa")

    def test_first(self):
        self.shown(("first", 1, (), AA), "first 1 0 all aa")
        self.shown(("first", 10 ** 9, (("s", "up"),), AA), "first 1000000000 1 s up all aa")
        self.shown(("first", 12, (("s", "down"), ("up", "up")), AA), "first 12 2 s down up up all aa")

    def test_pieces(self):
        self.shown(("see", "aa", None), "see aa none")
        self.shown(("see", "aa", (None, ())), "see aa all 0")
        self.shown(("see", "aa", (None, ("k", "n"))), "see aa all 2 k n")
        self.shown(("see", "aa", (("not", IS), ("k",))), "see aa rows not is k 1 1 k")
        self.shown(("lacking", "s", "id", ("once", ("see", "aa", None)), ("see", "bb", (None, ("id",)))),
                   "lacking s id once see aa none see bb all 1 id")

    def test_within_each_other(self):
        inner = ("join", "s", "x", ("where", BELOW, AA), ("called", ("x", "y"), ("pick", ("id", "m"), BB)))
        text = "join s x where below n -5 all aa called 2 x y pick 2 id m all bb"
        self.shown(inner, text)
        self.shown(("first", 2, (("s", "up"),), ("once", ("sums", ("s",), (("z", "count", None),), inner))),
                   f"first 2 1 s up once sums 1 s 1 z count {text}")
        self.shown(("lacking", "s", "s", inner, ("once", inner)), f"lacking s s {text} once {text}")

    def test_unlike_ones_are_written_unlike(self):
        chance = random.Random(6)
        texts = {}
        for question in making.of_each_word(chance, 100, 7):
            for piece in (question, *plain.parts(plain.under(making.PLAN, question, making.rights(chance)))):
                text = show_question(piece)
                self.assertEqual(texts.setdefault(text, piece), piece)
        self.assertGreater(len(texts), 1000)

    def test_words_are_parted_by_one_blank_on_one_row(self):
        for question in making.of_each_word(random.Random(7), 40, 7):
            text = show_question(question)
            self.assertNotIn("\n", text)
            self.assertEqual(text.split(), text.split(" "))


class Rights(Shown):
    def test_rights(self):
        self.is_text(show_right(None), "none")
        self.is_text(show_right((None, ())), "all 0")
        self.is_text(show_right((None, ("k",))), "all 1 k")
        self.is_text(show_right((None, ("k", "s", "n"))), "all 3 k s n")
        self.is_text(show_right((IS, ())), "rows is k 1 0")
        self.is_text(show_right((("and", IS, ("not", LIKE)), ("k", "n"))), "rows and is k 1 not like k n 2 k n")


class Entries(Shown):
    def test_deals(self):
        self.is_text(show_entry(("deal", ())), "deal")
        self.is_text(show_entry(("deal", (("put", "aa", (1, None, -3)),))), "deal put aa 1 ~ -3")
        self.is_text(show_entry(("deal", (("drop", "aa", -1),))), "deal drop aa -1")
        self.is_text(show_entry(("deal", (("drop", "bb", "put"), ("put", "bb", ("a", None)), ("drop", "aa", 2),
                                          ("put", "cc", (10 ** 9,))))),
                     "deal drop bb put put bb a ~ drop aa 2 put cc 1000000000")

    def test_rights(self):
        self.is_text(show_entry(("right", "ann", "aa", None)), "right ann aa none")
        self.is_text(show_entry(("right", "ann", "aa", (None, ("k", "n")))), "right ann aa all 2 k n")
        self.is_text(show_entry(("right", "bo", "bb", (IS, ()))), "right bo bb rows is k 1 0")

    def test_watches(self):
        self.is_text(show_entry(("watch", "ann", (AA,))), "watch ann 1 all aa")
        self.is_text(show_entry(("watch", "bo", (AA, ("once", BB), ("first", 1, (), AA)))),
                     "watch bo 3 all aa once all bb first 1 0 all aa")

    def test_ends(self):
        self.is_text(show_entry(("end", 0)), "end 0")
        self.is_text(show_entry(("end", 12)), "end 12")

    def test_what_is_handed_in_stays(self):
        entries = (("deal", (("put", "aa", (1, None)),)), ("watch", "bo", (("first", 1, (("s", "up"),), AA),)),
                   ("right", "ann", "aa", (("not", IS), ("k",))))
        held = copied(entries)
        for entry in entries:
            show_entry(entry)
        self.assertEqual(entries, held)


if __name__ == "__main__":
    unittest.main()
