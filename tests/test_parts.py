"""[11] Pieces: questions under rights, and what is in them."""

import random
import unittest

from standviews.answers import answer
from standviews.parts import parts_of, under
from standviews.rights import seen
from standviews.showing import show_question
from tests import making, plain
from tests.things import copied, is_plain

PLAN = (
    ("aa", (("k", "number"), ("s", "name"))),
    ("bb", (("id", "name"), ("m", "number"))),
)
AA, BB = ("all", "aa"), ("all", "bb")
SOME = (("below", "k", 5), ("s",))
SEE_AA, SEE_BB = ("see", "aa", SOME), ("see", "bb", None)
RIGHTS = (SOME, None)


class Under(unittest.TestCase):
    def gives(self, question, piece, rights=RIGHTS):
        with self.subTest(question):
            self.assertEqual(under(PLAN, question, rights), piece)
            self.assertTrue(is_plain(under(PLAN, question, rights)))

    def test_each_table_has_its_right(self):
        self.gives(AA, SEE_AA)
        self.gives(BB, SEE_BB)
        self.gives(AA, ("see", "aa", None), rights=(None, (None, ())))
        self.gives(BB, ("see", "bb", (None, ())), rights=(None, (None, ())))

    def test_each_form(self):
        check = ("is", "k", 1)
        self.gives(("where", check, AA), ("where", check, SEE_AA))
        self.gives(("pick", ("k",), AA), ("pick", ("k",), SEE_AA))
        self.gives(("called", ("x", "y"), BB), ("called", ("x", "y"), SEE_BB))
        self.gives(("join", "k", "m", AA, BB), ("join", "k", "m", SEE_AA, SEE_BB))
        self.gives(("sums", ("s",), (("x", "count", None),), AA), ("sums", ("s",), (("x", "count", None),), SEE_AA))
        self.gives(("once", BB), ("once", SEE_BB))
        self.gives(("lacking", "m", "k", BB, AA), ("lacking", "m", "k", SEE_BB, SEE_AA))
        self.gives(("first", 3, (("k", "up"),), AA), ("first", 3, (("k", "up"),), SEE_AA))

    def test_two_tables_deep_within(self):
        self.gives(("once", ("join", "s", "x", ("once", AA), ("called", ("x", "y"), ("first", 1, (), BB)))),
                   ("once", ("join", "s", "x", ("once", SEE_AA), ("called", ("x", "y"), ("first", 1, (), SEE_BB)))))

    def test_what_is_handed_in_stays(self):
        question = ("lacking", "m", "k", BB, ("once", AA))
        held = copied((PLAN, question, RIGHTS))
        parts_of(under(PLAN, question, RIGHTS))
        self.assertEqual((PLAN, question, RIGHTS), held)

    def test_over_the_store_it_is_the_question_over_what_is_seen(self):
        chance = random.Random(8)
        for question in making.of_each_word(chance, 30, 7):
            store, rights = making.store(chance), making.rights(chance)
            piece = under(making.PLAN, question, rights)
            self.assertEqual(piece, plain.under(making.PLAN, question, rights))
            self.assertEqual(plain.answer(making.PLAN, piece, store),
                             answer(making.PLAN, question, seen(making.PLAN, store, rights)))


class PartsOf(unittest.TestCase):
    def gives(self, piece, *parts):
        with self.subTest(piece):
            self.assertEqual(parts_of(piece), parts)
            self.assertTrue(is_plain(parts_of(piece)))

    def test_of_a_table_itself_alone(self):
        self.gives(SEE_AA, SEE_AA)
        self.gives(SEE_BB, SEE_BB)

    def test_they_rise_by_their_texts(self):
        self.gives(("once", SEE_AA), ("once", SEE_AA), SEE_AA)
        self.gives(("where", ("is", "k", 1), SEE_AA), SEE_AA, ("where", ("is", "k", 1), SEE_AA))
        join = ("join", "s", "id", ("where", ("is", "k", 1), SEE_AA), ("once", SEE_BB))
        self.gives(join, join, ("once", SEE_BB), SEE_AA, SEE_BB, join[3])

    def test_texts_rise_as_python_sorts_them(self):
        ten, two = ("first", 10, (), SEE_BB), ("first", 2, (), SEE_BB)
        join = ("join", "id", "x", ten, ("called", ("x", "y"), two))
        self.gives(join, join[4], ten, two, join, SEE_BB)
        see, wider = ("see", "aa", (None, ())), ("see", "aa", (None, ("k",)))
        lacking = ("lacking", "k", "k", wider, see)
        self.gives(lacking, lacking, see, wider)

    def test_a_part_that_stands_several_times_is_told_once(self):
        lacking = ("lacking", "m", "m", SEE_BB, SEE_BB)
        self.gives(lacking, lacking, SEE_BB)
        once = ("once", SEE_BB)
        twice = ("lacking", "m", "m", once, ("once", once))
        self.gives(twice, twice, ("once", once), once, SEE_BB)
        self.gives(("lacking", "m", "m", twice, twice), ("lacking", "m", "m", twice, twice), twice, ("once", once),
                   once, SEE_BB)

    def test_a_table_under_two_rights_is_two_pieces(self):
        other = ("see", "aa", None)
        lacking = ("lacking", "k", "k", SEE_AA, other)
        self.gives(lacking, lacking, other, SEE_AA)

    def test_by_chance_all_are_there_once_and_rising(self):
        chance = random.Random(9)
        for question in making.of_each_word(chance, 30, 9):
            piece = under(making.PLAN, question, making.rights(chance))
            told = parts_of(piece)
            texts = [show_question(part) for part in told]
            self.assertEqual(texts, sorted(set(texts)))
            found = plain.parts(piece)
            self.assertEqual(len(told), len(found))
            self.assertTrue(all(part in found for part in told))


if __name__ == "__main__":
    unittest.main()
