"""[25] How questions, rights and entries are read; [2] texts of any kind."""

import random
import unittest

from standviews.errors import NoText
from standviews.reading import read_entry, read_question, read_right
from standviews.showing import show_entry, show_question, show_right
from tests import making, plain
from tests.things import anything, is_plain, shown

PLAN = (
    ("aa", (("k", "number"), ("s", "name"), ("n", "number"))),
    ("bb", (("id", "name"),)),
)
AA = ("all", "aa")
NAMES = ("a", "abcdefgh", "all", "where", "deal", "put", "none", "is", "count", "up", "z")
NO_NAMES = ("", "abcdefghi", "A", "aB", "a1", "1", "-", "~", "a-", "a_b", "\u00e9", "\u0430", "a\n", "\ta", "a,b")
COUNTS = {"0": 0, "1": 1, "9": 9, "10": 10, "123": 123, "1000000000": 10 ** 9, "9999999999": 9999999999}
NO_COUNTS = ("", "-", "-0", "-1", "00", "01", "007", "+1", "1.0", "1e3", "1_0", "0x1", "10000000000", "99999999999",
             "1" * 5000, "\u0661", "\u00b2", "\uff11", "~", "a", "1a", "1\n", "\t1")
NUMBERS = {**COUNTS, "-1": -1, "-10": -10, "-1000000000": -10 ** 9, "-9999999999": -9999999999}
NO_NUMBERS = ("", "-", "-0", "--1", "00", "01", "-01", "-00", "+1", "1-", "1.0", "1e3", "1_0", "10000000000",
              "-10000000000", "1" * 5000, "-" + "1" * 5000, "\u0661", "-\u0661", "\uff11", "~", "a", "-a", "-~", "1\n")


def reads_entry(text):
    return read_entry(PLAN, text)


class Reading(unittest.TestCase):
    read = None

    def reads(self, text, told):
        with self.subTest(text):
            self.assertEqual(type(self).read(text), told)
            self.assertTrue(is_plain(type(self).read(text)))

    def refuses(self, text):
        try:
            told = type(self).read(text)
        except NoText as refused:
            self.assertEqual((refused.row, type(refused.row)), (0, int))
        else:
            self.fail(f"{shown(text)} is read as {shown(told)}")

    def places(self, text, told, *, good, bad):
        """At the place of # in the text."""
        for word, worth in good:
            self.reads(text.replace("#", word), put_in(told, worth))
        for word in bad:
            self.refuses(text.replace("#", word))

    def names(self, text, told):
        self.places(text, told, good=[(name, name) for name in NAMES], bad=NO_NAMES)

    def counts(self, text, told):
        self.places(text, told, good=COUNTS.items(), bad=NO_COUNTS)

    def numbers(self, text, told):
        self.places(text, told, good=NUMBERS.items(), bad=NO_NUMBERS)

    def worths(self, text, told):
        self.places(text, told, good=[("~", None), *NUMBERS.items(), *[(name, name) for name in NAMES]],
                    bad=[word for word in NO_NAMES + NO_NUMBERS if word not in ("~", "a", "1")])

    def spaced(self, text):
        """All that is a blank, a word, a line feed too many or too few in a text that is read as it is."""
        type(self).read(text)
        words = text.split(" ")
        for other in ("", " ", " " + text, text + " ", text + "\n", "\n" + text, text.replace(" ", "\n", 1),
                      text + " x", text + " 0", text + " ~", text + "\r", text.replace(" ", "\t"), text.upper(),
                      text + "\n" + text, text + " " + text):
            if other != text:
                self.refuses(other)
        for at in range(1, len(words)):
            self.refuses(" ".join(words[:at]) + "  " + " ".join(words[at:]))
            self.refuses(" ".join(words[:at]) + "\n" + " ".join(words[at:]))

    def cut(self, text, *, good=()):
        """Each of the text's beginnings is refused, by words, but for those that are told."""
        words = text.split(" ")
        for at in range(len(words)):
            if " ".join(words[:at]) not in good:
                self.refuses(" ".join(words[:at]))

    def of_any_kind(self):
        for thing in anything():
            self.refuses(thing)
        for thing in anything():
            self.refuses([thing])
            self.refuses((thing,))


def put_in(told, worth):
    """What is told, with the worth in the place of each #."""
    if told == "#":
        return worth
    if type(told) is tuple:
        return tuple(put_in(part, worth) for part in told)
    return told


class Questions(Reading):
    read = staticmethod(read_question)

    def test_each_form(self):
        self.reads("all aa", AA)
        self.reads("where is k 1 all aa", ("where", ("is", "k", 1), AA))
        self.reads("pick 2 n k all aa", ("pick", ("n", "k"), AA))
        self.reads("called 3 x y z all aa", ("called", ("x", "y", "z"), AA))
        self.reads("join s id all aa all bb", ("join", "s", "id", AA, ("all", "bb")))
        self.reads("sums 2 s k 4 x count y sum n z least s w most k once all aa",
                   ("sums", ("s", "k"), (("x", "count", None), ("y", "sum", "n"), ("z", "least", "s"),
                                         ("w", "most", "k")), ("once", AA)))
        self.reads("sums 0 1 x count all aa", ("sums", (), (("x", "count", None),), AA))
        self.reads("once all aa", ("once", AA))
        self.reads("lacking s id all aa all bb", ("lacking", "s", "id", AA, ("all", "bb")))
        self.reads("first 1 0 all aa", ("first", 1, (), AA))
        self.reads("first 12 2 s down k up all aa", ("first", 12, (("s", "down"), ("k", "up")), AA))

    def test_each_form_of_a_check(self):
        for text, check in (("is k ~", ("is", "k", None)), ("is s abc", ("is", "s", "abc")),
                            ("below n -5", ("below", "n", -5)), ("like k n", ("like", "k", "n")),
                            ("not is k 1", ("not", ("is", "k", 1))),
                            ("and is k 1 below n 0", ("and", ("is", "k", 1), ("below", "n", 0))),
                            ("or like k n is k 1", ("or", ("like", "k", "n"), ("is", "k", 1))),
                            ("and or is k 1 not like k n not and below n -5 is k 1",
                             ("and", ("or", ("is", "k", 1), ("not", ("like", "k", "n"))),
                              ("not", ("and", ("below", "n", -5), ("is", "k", 1)))))):
            self.reads(f"where {text} all aa", ("where", check, AA))
            self.cut(f"where {text} all aa")
            self.spaced(f"where {text} all aa")

    def test_names_at_each_place(self):
        for text, told in (("all #", ("all", "#")), ("where is # 1 all aa", ("where", ("is", "#", 1), AA)),
                           ("where below # 1 all aa", ("where", ("below", "#", 1), AA)),
                           ("where like # s all aa", ("where", ("like", "#", "s"), AA)),
                           ("where like s # all aa", ("where", ("like", "s", "#"), AA)),
                           ("pick 1 # all aa", ("pick", ("#",), AA)), ("pick 2 k # all aa", ("pick", ("k", "#"), AA)),
                           ("called 2 # k all aa", ("called", ("#", "k"), AA)),
                           ("join # d all aa all aa", ("join", "#", "d", AA, AA)),
                           ("join c # all aa all aa", ("join", "c", "#", AA, AA)),
                           ("lacking # d all aa all aa", ("lacking", "#", "d", AA, AA)),
                           ("lacking c # all aa all aa", ("lacking", "c", "#", AA, AA)),
                           ("sums 1 # 1 x count all aa", ("sums", ("#",), (("x", "count", None),), AA)),
                           ("sums 0 1 # count all aa", ("sums", (), (("#", "count", None),), AA)),
                           ("sums 0 1 # sum n all aa", ("sums", (), (("#", "sum", "n"),), AA)),
                           ("sums 0 1 x sum # all aa", ("sums", (), (("x", "sum", "#"),), AA)),
                           ("sums 0 1 x least # all aa", ("sums", (), (("x", "least", "#"),), AA)),
                           ("sums 0 1 x most # all aa", ("sums", (), (("x", "most", "#"),), AA)),
                           ("first 1 1 # up all aa", ("first", 1, (("#", "up"),), AA))):
            self.names(text, told)

    def test_counts_and_numbers_and_worths(self):
        self.counts("first # 0 all aa", ("first", "#", (), AA))
        self.numbers("where below n # all aa", ("where", ("below", "n", "#"), AA))
        self.worths("where is n # all aa", ("where", ("is", "n", "#"), AA))

    def test_how_many_there_follow(self):
        for text, right in (("pick # a b all aa", "2"), ("called # a b all aa", "2"),
                            ("sums # a b 1 x count all aa", "2"), ("sums 0 # x count y count all aa", "2"),
                            ("first 1 # a up b down all aa", "2")):
            type(self).read(text.replace("#", right))
            for many in ("0", "1", "3", "4", "9999999999", *NO_COUNTS):
                self.refuses(text.replace("#", many))

    def test_how_many_may_be_none_right_for_a_plan_or_not(self):
        self.reads("pick 0 all aa", ("pick", (), AA))
        self.reads("called 0 all aa", ("called", (), AA))
        self.reads("sums 0 0 all aa", ("sums", (), (), AA))
        self.reads("first 0 0 all aa", ("first", 0, (), AA))

    def test_what_is_right_for_no_plan(self):
        self.reads("pick 2 a a all zz", ("pick", ("a", "a"), ("all", "zz")))
        self.reads("where is s -9999999999 all zz", ("where", ("is", "s", -9999999999), ("all", "zz")))
        self.reads("sums 2 x x 2 x count x sum x all aa",
                   ("sums", ("x", "x"), (("x", "count", None), ("x", "sum", "x")), AA))
        self.reads("first 2 2 x up x up all aa", ("first", 2, (("x", "up"), ("x", "up")), AA))
        self.reads("join a a all aa all aa", ("join", "a", "a", AA, AA))

    def test_words_of_the_forms_as_names(self):
        self.reads("all all", ("all", "all"))
        self.reads("where is is is all where", ("where", ("is", "is", "is"), ("all", "where")))
        self.reads("where like not or all and", ("where", ("like", "not", "or"), ("all", "and")))
        self.reads("sums 1 sum 2 count count least most most all aa",
                   ("sums", ("sum",), (("count", "count", None), ("least", "most", "most")), AA))
        self.reads("first 1 2 up up down down all first", ("first", 1, (("up", "up"), ("down", "down")),
                                                           ("all", "first")))
        self.reads("join all all all all all all", ("join", "all", "all", ("all", "all"), ("all", "all")))

    def test_other_words(self):
        for text in ("each aa", "al aa", "ALL aa", "see aa none", "where same a b all aa", "where is all aa",
                     "sums 0 1 x mean n all aa", "sums 0 1 x count n all aa", "sums 0 1 x sum all aa",
                     "first 1 1 a sideways all aa", "first 1 1 a UP all aa", "first 1 1 a all aa", "none", "deal",
                     "all 1 k", "1", "~", "-"):
            self.refuses(text)

    def test_pieces_are_refused(self):
        for text in ("see aa none", "see aa all 1 k", "once see aa none", "see aa rows is k 1 1 k",
                     "lacking s s all aa see aa none", "join s t see aa none all aa"):
            self.refuses(text)

    def test_words_too_many_and_too_few_and_blanks(self):
        for text in ("all aa", "once all aa", "pick 2 n k all aa", "called 3 x y z all aa",
                     "lacking s id all aa all bb", "join s id once all aa all bb", "first 12 2 s down k up all aa",
                     "sums 2 s k 4 x count y sum n z least s w most k once all aa"):
            self.spaced(text)
            self.cut(text)

    def test_texts_of_any_kind(self):
        self.of_any_kind()

    def test_written_and_read_again(self):
        for question in making.of_each_word(random.Random(25), 100, 9):
            self.assertEqual(read_question(show_question(question)), question)
            rights = making.rights(random.Random(str(question)))
            self.refuses(show_question(plain.under(making.PLAN, question, rights)))

    def test_read_and_written_again(self):
        """Where a text with one word put as another one is read at all, it is written as it is."""
        chance = random.Random(26)
        others = ("all", "aa", "k", "~", "0", "1", "2", "-1", "10", "up", "count", "is", "not", "once", "see", "none",
                  "")
        read = 0
        for question in making.of_each_word(chance, 60, 6):
            words = show_question(question).split(" ")
            for at in range(len(words)):
                text = " ".join(words[:at] + [chance.choice(others)] + words[at + 1:])
                try:
                    told = read_question(text)
                except NoText:
                    continue
                self.assertEqual(show_question(told), text)
                read += 1
        self.assertGreater(read, 200)

    def test_deep_ones_are_read_too(self):
        for deep in (13, 50, 5000):
            told = read_question("once " * deep + "all aa")
            for _ in range(deep):
                self.assertEqual((len(told), told[0]), (2, "once"))
                told = told[1]
            self.assertEqual(told, AA)
            self.refuses("once " * deep)
            self.refuses("where " + "not " * deep + "all aa")


class Rights(Reading):
    read = staticmethod(read_right)

    def test_each(self):
        self.reads("none", None)
        self.reads("all 0", (None, ()))
        self.reads("all 1 k", (None, ("k",)))
        self.reads("all 3 k s n", (None, ("k", "s", "n")))
        self.reads("rows is k 1 0", (("is", "k", 1), ()))
        self.reads("rows and is k 1 not like k n 2 k n", (("and", ("is", "k", 1), ("not", ("like", "k", "n"))),
                                                          ("k", "n")))

    def test_right_for_a_plan_or_not(self):
        self.reads("all 3 b a a", (None, ("b", "a", "a")))
        self.reads("rows is zz -9999999999 1 none", (("is", "zz", -9999999999), ("none",)))

    def test_names_worths_and_numbers_at_each_place(self):
        self.names("all 1 #", (None, ("#",)))
        self.names("all 2 # k", (None, ("#", "k")))
        self.names("rows is k 1 1 #", (("is", "k", 1), ("#",)))
        self.names("rows is # 1 0", (("is", "#", 1), ()))
        self.worths("rows is k # 0", (("is", "k", "#"), ()))
        self.numbers("rows below k # 0", (("below", "k", "#"), ()))

    def test_how_many_there_follow(self):
        for text in ("all # a b", "rows is k 1 # a b"):
            type(self).read(text.replace("#", "2"))
            for many in ("0", "1", "3", "9999999999", *NO_COUNTS):
                self.refuses(text.replace("#", many))

    def test_words_too_many_and_too_few_and_blanks(self):
        for text in ("none", "all 0", "all 2 a b", "rows is k 1 0", "rows or is k ~ below n -1 2 a b"):
            self.spaced(text)
            self.cut(text)

    def test_other_words(self):
        for text in ("None", "some", "rows 1 k", "rows none", "all", "all none", "all k", "where is k 1 0", "0", "~"):
            self.refuses(text)

    def test_texts_of_any_kind(self):
        self.of_any_kind()

    def test_written_and_read_again(self):
        chance = random.Random(27)
        for _ in range(300):
            for right in making.rights(chance):
                self.assertEqual(read_right(show_right(right)), right)


class Entries(Reading):
    read = staticmethod(reads_entry)

    def test_deals(self):
        self.reads("deal", ("deal", ()))
        self.reads("deal put aa 1 ~ -3", ("deal", (("put", "aa", (1, None, -3)),)))
        self.reads("deal drop aa -1", ("deal", (("drop", "aa", -1),)))
        self.reads("deal drop bb put put bb drop drop aa ~ put aa put put put",
                   ("deal", (("drop", "bb", "put"), ("put", "bb", ("drop",)), ("drop", "aa", None),
                             ("put", "aa", ("put", "put", "put")))))

    def test_a_put_is_of_a_table_of_the_plan_with_as_many_worths_as_it_has_columns(self):
        for text in ("deal put cc 1", "deal put cc", "deal put aa 1 2", "deal put aa", "deal put aa 1 2 3 4",
                     "deal put bb", "deal put bb a b", "deal put aa 1 2 put bb x", "deal put bb x 1 put aa 1 2 3"):
            self.refuses(text)
        self.reads("deal put aa 1 2 put put bb x", ("deal", (("put", "aa", (1, 2, "put")), ("put", "bb", ("x",)))))

    def test_a_put_of_worths_that_do_not_fit_is_read(self):
        self.reads("deal put aa ~ 5 abc", ("deal", (("put", "aa", (None, 5, "abc")),)))
        self.reads("deal put bb 9999999999", ("deal", (("put", "bb", (9999999999,)),)))

    def test_a_drop_is_of_any_name(self):
        self.names("deal drop # 1", ("deal", (("drop", "#", 1),)))
        self.reads("deal drop zz ~ drop cc a", ("deal", (("drop", "zz", None), ("drop", "cc", "a"))))

    def test_worths_at_each_place_of_a_deal(self):
        self.worths("deal put aa # 1 2", ("deal", (("put", "aa", ("#", 1, 2)),)))
        self.worths("deal put aa 1 2 #", ("deal", (("put", "aa", (1, 2, "#")),)))
        self.worths("deal drop aa #", ("deal", (("drop", "aa", "#"),)))
        self.worths("deal drop aa # put bb x", ("deal", (("drop", "aa", "#"), ("put", "bb", ("x",)))))

    def test_rights(self):
        self.reads("right ann aa none", ("right", "ann", "aa", None))
        self.reads("right ann aa all 2 k n", ("right", "ann", "aa", (None, ("k", "n"))))
        self.reads("right bo zz rows is k 1 0", ("right", "bo", "zz", (("is", "k", 1), ())))
        self.names("right # aa none", ("right", "#", "aa", None))
        self.names("right ann # none", ("right", "ann", "#", None))
        self.reads("right right right rows like right right 1 right",
                   ("right", "right", "right", (("like", "right", "right"), ("right",))))

    def test_watches(self):
        self.reads("watch ann 1 all aa", ("watch", "ann", (AA,)))
        self.reads("watch bo 3 all aa once all bb first 1 0 all zz",
                   ("watch", "bo", (AA, ("once", ("all", "bb")), ("first", 1, (), ("all", "zz")))))
        self.reads("watch bo 0", ("watch", "bo", ()))
        self.reads("watch bo 4 all aa all aa all aa all aa", ("watch", "bo", (AA,) * 4))
        self.names("watch # 1 all aa", ("watch", "#", (AA,)))
        for many in ("0", "1", "3", "9999999999", *NO_COUNTS):
            self.refuses(f"watch ann {many} all aa all bb")
        self.refuses("watch ann 1 see aa none")

    def test_ends(self):
        self.counts("end #", ("end", "#"))

    def test_words_too_many_and_too_few_and_blanks(self):
        for text in ("deal drop aa -1", "right ann aa rows is k 1 1 k", "watch ann 2 all aa once all bb", "end 12"):
            self.spaced(text)
            self.cut(text, good=("deal",))
        self.cut("deal drop aa 1 put bb x put aa 1 ~ -3", good=("deal", "deal drop aa 1", "deal drop aa 1 put bb x"))
        for text in ("deal ", " deal", "deal\n", "deal  drop aa 1", "deal drop aa 1 ", "deal x", "deal 1", "deal deal"):
            self.refuses(text)

    def test_other_words(self):
        for text in ("deals", "beat 0", "fold", "picture 0 0", "row aa 1 ~ 1", "entries", "may ann aa none", "put bb x",
                     "drop bb x", "all aa", "none", "Deal", "right ann none", "right aa all 1 k", "watch ann all aa",
                     "watch 1 all aa", "end", "end x", "end ~", "end 1 2"):
            self.refuses(text)

    def test_texts_of_any_kind(self):
        self.of_any_kind()

    def test_written_and_read_again(self):
        chance = random.Random(28)
        for _ in range(200):
            entry = self.entry(chance)
            self.assertEqual(read_entry(making.PLAN, show_entry(entry)), entry)

    def entry(self, chance):
        word = chance.choice(("deal", "right", "watch", "end"))
        if word == "deal":
            changes = []
            for _ in range(chance.randrange(4)):
                table, columns = chance.choice(making.PLAN)
                put = ("put", table, making.row(chance, columns))
                changes.append(chance.choice((put, ("drop", table, put[2][0]))))
            return (word, tuple(changes))
        if word == "right":
            table, columns = chance.choice(making.PLAN)
            return (word, chance.choice(NAMES), table, making.right(chance, columns))
        if word == "watch":
            return (word, chance.choice(NAMES),
                    tuple(making.question(chance, 6) for _ in range(chance.randrange(1, 4))))
        return (word, chance.randrange(10 ** 10))


del Reading

if __name__ == "__main__":
    unittest.main()
