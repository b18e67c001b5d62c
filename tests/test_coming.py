"""[22], [23] How a house comes up again from what was written; [4](g); [2] plans and texts of any kind."""

import unittest

from standviews.coming import come_up
from standviews.errors import NoMoment, NoPlan, NoText, ViewError
from standviews.houses import House
from tests.things import Text, anything, copied, is_plain, shown, spoilt

PLAN = (
    ("aa", (("k", "number"), ("s", "name"))),
    ("bb", (("id", "name"),)),
)
AA, BB = ("all", "aa"), ("all", "bb")
ALL, HALF = (None, ("k", "s")), (("is", "s", "a"), ("k",))
TOTAL = ("sums", (), (("x", "sum", "k"),), AA)
FIRST = ("first", 2, (("k", "down"),), AA)
PERSONS = ("ann", "bo", "cy")
# What a house does, one behind the other.
DEEDS = (
    ("watch", "ann", (AA, TOTAL)),
    ("right", "ann", "aa", ALL),
    ("deal", (("put", "aa", (1, "a")), ("put", "aa", (-20, None)))),
    ("watch", "bo", (("pick", ("s",), AA),)),
    ("right", "bo", "aa", HALF),
    ("deal", (("put", "bb", ("x",)), ("drop", "aa", 1))),
    ("deal", ()),
    ("end", 0),
    ("right", "ann", "bb", (None, ())),
    ("watch", "ann", (FIRST, BB, AA)),
    ("deal", (("put", "aa", (7, "a")), ("put", "aa", (8, "b")))),
    ("right", "bo", "aa", None),
    ("deal", (("put", "aa", (7, "c")),)),
    ("deal", (("put", "aa", (9, "a")), ("drop", "bb", "x"))),
)


def do(house, deed):
    return getattr(house, deed[0])(*deed[1:])


def made(deeds=DEEDS, *, folds=(), **kept):
    """A house that did these, folded ahead of those at these places, and behind all where len(deeds) is one."""
    house = House(PLAN, **kept)
    for at, deed in enumerate(deeds):
        if at in folds:
            house.fold()
        do(house, deed)
    if len(deeds) in folds:
        house.fold()
    return house


def told(house):
    """All that a house is, but for what it has heard, whose turn it is, and its works."""
    numbers = [w for w, _, _ in house.watchers()]
    return (house.moment(), house.store(), house.begun(), house.written(), house.watchers(),
            tuple(house.rights(person) for person in PERSONS),
            tuple(house.past(moment) for moment in range(house.begun(), house.moment() + 1)),
            tuple(house.line(w) for w in numbers), tuple(piece for piece, _ in house.works()),
            tuple(house.letter_by(w, (0, k)) for w in numbers for k in range(-1, house.line(w)[0] + 1)))


class Up(unittest.TestCase):
    def is_up(self, text, house, **kept):
        """The text comes up as the house is, and goes on as it does."""
        other = come_up(PLAN, text, **kept)
        self.assertEqual(told(other), told(house))
        self.assertTrue(is_plain(told(other)))
        self.assertEqual(other.watch("bo", (AA,)), house.watch("bo", (AA,)))
        for deed in (("deal", (("put", "aa", (50, "a")),)), ("right", "ann", "aa", HALF),
                     ("deal", (("drop", "aa", 50), ("put", "bb", ("z",))))):
            self.assertEqual(do(other, deed), do(house, deed))
            self.assertEqual(told(other), told(house))

    def refuses(self, text, row):
        with self.assertRaises(NoText) as caught:
            come_up(PLAN, text)
        self.assertEqual((caught.exception.row, type(caught.exception.row)), (row, int), shown(text))


class Texts(Up):
    def test_of_nothing(self):
        self.is_up("", House(PLAN))

    def test_behind_each_deed(self):
        for kept in (0, 1, 2, 8):
            for many in range(len(DEEDS) + 1):
                house = made(DEEDS[:many], kept=kept)
                self.is_up(house.written(), made(DEEDS[:many], kept=kept), kept=kept)

    def test_kept_is_eight_where_it_is_left_out(self):
        deeds = DEEDS[:2] + tuple(("deal", (("put", "aa", (k, None)),)) for k in range(20))
        self.is_up(made(deeds).written(), made(deeds))
        self.assertEqual(len(come_up(PLAN, made(deeds).written()).line(0)[2]), 9)
        self.assertRaises(TypeError, come_up, PLAN, "", 8)

    def test_written_by_hand(self):
        house = come_up(PLAN, "right ann aa all 2 k s\ndeal put aa 5 ~ put aa 6 b drop aa 5\nwatch ann 1 all aa\n")
        self.assertEqual((house.moment(), house.store(), house.line(0)), (2, (((6, "b"),), ()),
                                                                         (0, (((6, "b"),),), ((0, 2),))))

    def test_cut_behind_every_sign_of_it(self):
        text = made().written()
        for cut in range(len(text) + 1):
            many = text[:cut].count("\n")
            other = come_up(PLAN, text[:cut])
            self.assertEqual(told(other), told(made(DEEDS[:many])))

    def test_what_stands_behind_the_last_line_feed_is_not_read(self):
        for torn in ("deal", "end 0", "bogus", "deal put aa", " ", "\r", "picture 0 0", "watch ann 1 all aa",
                     "~" * 999):
            self.is_up(torn, House(PLAN))
            self.is_up(made().written() + torn, made())

    def test_it_has_heard_nothing_and_all_turns_begin_anew(self):
        house = made()
        house.heard(("have", 1, 3, 0))
        house.turn(1)
        for fold in (False, True):
            if fold:
                house.fold()
            other = come_up(PLAN, house.written())
            self.assertEqual([other.mark(w) for w, _, _ in other.watchers()], [(0, -1)] * 2)
            self.assertEqual(other.turn(1)[0][0], 1)
            self.assertEqual(house.mark(1), (3, 0))

    def test_the_house_that_did_these_has_worked_as_much(self):
        self.assertEqual((come_up(PLAN, made().written()).works(), come_up(PLAN, made().written()).total()),
                         (made().works(), made().total()))

    def test_what_comes_up_is_another_house(self):
        house = made()
        held = copied(told(house))
        do(come_up(PLAN, house.written()), ("end", 1))
        self.assertEqual(told(house), held)


class Refused(Up):
    def test_of_no_plan_ahead_of_no_text(self):
        for thing in anything() + [list(PLAN), PLAN[::-1]]:
            for text in ("", "bogus\n", None, thing):
                self.assertRaises(NoPlan, come_up, thing, text)
        for how, where, thing in spoilt(PLAN):
            with self.subTest((how, where)):
                self.assertRaises(NoPlan, come_up, thing, "")

    def test_of_no_text(self):
        for thing in anything() + [b"deal\n", ["deal\n"], ("deal\n",), Text("deal\n"), Text("")]:
            if type(thing) is not str:
                self.refuses(thing, 0)

    def test_a_row_of_none_of_the_forms(self):
        rows = made().written().splitlines()
        for at in range(len(rows) + 1):
            for bad in ("", " ", "bogus", "deal put zz 1", "deal put aa 1", "end 00", "end -1", "watch ann 2 all aa",
                        "right ann aa", "beat 0", "fold", "entries", "row aa 1 a", "picture 0 0" if at else "picture",
                        "may ann aa none", rows[min(at, 13)] + " ", " " + rows[min(at, 13)]):
                self.refuses("\n".join(rows[:at] + [bad] + rows[at:]) + "\n", at)

    def test_a_row_that_is_refused_there(self):
        rows = made().written().splitlines()
        for at in range(len(rows) + 1):
            for bad in ("deal drop aa 99", "deal drop zz 1", "deal put aa ~ a", "deal put aa 9999999999 a",
                        "deal put aa 1 1", "right ann zz none", "right ann aa all 2 s k", "watch ann 0",
                        "watch ann 1 all zz", "watch ann 4 all aa all aa all aa all aa", "end 99"):
                self.refuses("\n".join(rows[:at] + [bad] + rows[at:]) + "\n", at)

    def test_the_first_of_several(self):
        self.refuses("deal\nend 0\nbogus\n", 1)
        self.refuses("deal\nbogus\nend 0\n", 1)
        self.refuses("watch ann 1 all aa\nend 0\nend 0\nend 0", 2)
        self.refuses("\n\n", 0)
        self.refuses("deal\n\ndeal\n", 1)

    def test_texts_of_other_signs(self):
        for text in ("deal\r\n", "deal\t\n", "deal\x0b\n", "deal\u2028\n", "\ufeffdeal\n", "\udc80\n", "end \u0661\n"):
            self.refuses(text, 0)

    def test_what_is_handed_in_stays(self):
        held = copied(PLAN)
        come_up(PLAN, made().written())
        self.assertRaises(ViewError, come_up, PLAN, "bogus\n")
        self.assertEqual(PLAN, held)


class Folded(Up):
    def test_of_an_empty_house(self):
        house = House(PLAN)
        house.fold()
        self.is_up("picture 0 0\nentries\n", house)

    def test_folded_ahead_of_each_deed(self):
        for kept in (0, 1, 2, 8):
            for at in range(len(DEEDS) + 1):
                house = made(folds=(at,), kept=kept)
                self.is_up(house.written(), made(folds=(at,), kept=kept), kept=kept)

    def test_folded_several_times(self):
        for folds in ((0, 1), (3, 5), (2, 7, 11), range(len(DEEDS) + 1)):
            self.is_up(made(folds=folds, kept=2).written(), made(folds=folds, kept=2), kept=2)

    def test_folded_twice_in_a_row_it_is_written_as_it_was(self):
        house = made()
        house.fold()
        text = house.written()
        house.fold()
        self.assertEqual(house.written(), text)
        other = come_up(PLAN, text)
        other.fold()
        self.assertEqual(other.written(), text)

    def test_up_and_down_again(self):
        house, other = House(PLAN, kept=2), House(PLAN, kept=2)
        for at, deed in enumerate(DEEDS):
            do(house, deed)
            do(other, deed)
            if at % 3 == 0:
                house.fold()
                other.fold()
            other = come_up(PLAN, other.written(), kept=2)
            self.assertEqual(told(other), told(house))

    def test_but_for_its_text_and_its_past_it_is_as_one_that_did_not_fold(self):
        for at in range(len(DEEDS) + 1):
            other, house = come_up(PLAN, made(folds=(at,)).written()), made()
            self.assertEqual((other.moment(), other.store(), other.watchers(), other.rights("ann")),
                             (house.moment(), house.store(), house.watchers(), house.rights("ann")))
            for w, _, _ in house.watchers():
                self.assertEqual(other.line(w), house.line(w))
                for k in range(-1, house.line(w)[0] + 1):
                    self.assertEqual(other.letter_by(w, (5, k)), house.letter_by(w, (5, k)))

    def test_numbers_that_have_ended_are_not_told_again(self):
        house = House(PLAN)
        for _ in range(12):
            house.watch("ann", (AA,))
        for w in range(12):
            house.end(w)
        house.fold()
        other = come_up(PLAN, house.written())
        self.assertEqual((other.watchers(), other.watch("ann", (AA,))), ((), 12))

    def test_cut_anywhere_behind_the_picture(self):
        for folds in ((4,), (7,), (11,)):
            text = made(folds=folds, kept=2).written()
            behind = text.index("entries\n") + len("entries\n")
            for cut in range(behind, len(text) + 1):
                many = folds[0] + text[behind:cut].count("\n")
                self.assertEqual(told(come_up(PLAN, text[:cut], kept=2)),
                                 told(made(DEEDS[:many], folds=folds, kept=2)))

    def test_a_picture_cut_short(self):
        for at in (0, 4, 7, 14):
            text = made(DEEDS[:at], folds=(at,)).written()
            for cut in range(text.index("\n") + 1, len(text)):
                self.refuses(text[:cut], text[:cut].count("\n"))

    def test_of_a_picture_without_one_whole_row_nothing_is_read(self):
        text = made(folds=(14,)).written()
        for cut in range(text.index("\n") + 1):
            self.is_up(text[:cut], House(PLAN))

    def test_entries_lacks_with_nothing_else_there(self):
        self.refuses("picture 0 0\n", 1)
        self.refuses("picture 3 2\nrow aa 1 a\n", 2)
        self.refuses("picture 3 2\nrow aa 1 a\nentries", 2)

    def test_entries_lacks_with_other_rows_behind(self):
        for at in (0, 4, 7, 13):
            text = made(folds=(at,)).written()
            self.refuses(text.replace("entries\n", ""), text.count("\n") - 1)
        self.refuses("picture 3 2\nbogus\n", 2)
        self.refuses("picture 3\nbogus\n", 0)

    def test_rows_behind_a_picture_are_counted_with_its_own(self):
        text = made(folds=(14,)).written()
        many = text.count("\n")
        for bad in ("bogus", "deal drop aa 99", "end 0", "entries", "picture 0 0", "row aa 1 a", ""):
            self.refuses(text + bad + "\n", many)
            self.refuses(text + "deal\ndeal\n" + bad + "\n", many + 2)

    def test_sums_of_up_to_sixteen_figures_in_what_is_kept(self):
        house = House(PLAN)
        house.right("ann", "aa", ALL)
        other = ("called", ("j", "t"), AA)
        great = ("sums", (), (("x", "sum", "k"),), ("join", "s", "t", AA, other))
        greater = ("sums", (), (("z", "sum", "x"),),
                   ("join", "s", "v", AA, ("called", ("v", "x"), ("sums", ("s",), (("x", "sum", "k"),), AA))))
        house.watch("ann", (TOTAL, great, greater))
        for sign in (1, -1, 1):
            house.deal(tuple(("drop", "aa", row[0]) for row in house.store()[0]) +
                       tuple(("put", "aa", (sign * (10 ** 9 - k), "a")) for k in range(20)))
        self.assertEqual([len(str(bag[0][0])) for bag in house.line(0)[1]], [11, 12, 12])
        house.fold()
        self.is_up(house.written(), copied(house))

    def test_sixteen_figures_by_hand(self):
        text = ("picture 5 1\nrow aa 1 a\nmay ann aa all 2 k s\nline 0 ann 0 2 1 sums 0 1 x sum k all aa\n"
                "kept 0 3 - -1000000000000000\nkept 0 4 -1000000000000000 1\nentries\n")
        house = come_up(PLAN, text)
        self.assertEqual(house.written(), text)
        self.assertEqual(house.line(0), (2, (((1,),),), ((0, 2), (1, 3), (2, 4))))
        self.assertEqual(house.letter_by(0, (0, 1)), ("whole", 0, 0, 2, (((1,),),)))

    def test_past_behind_a_picture(self):
        house = made(folds=(9,))
        other = come_up(PLAN, house.written())
        begun, now = house.begun(), house.moment()
        self.assertEqual((other.begun(), other.moment()), (begun, now))
        self.assertGreater(begun, 0)
        for moment in range(begun, now + 1):
            self.assertEqual(other.past(moment), house.past(moment))
        for moment in (begun - 1, now + 1, 0, -1):
            self.assertRaises(NoMoment, other.past, moment)

    def test_past_at_the_moment_of_a_picture_and_nothing_behind(self):
        house = made(folds=(14,))
        other = come_up(PLAN, house.written())
        self.assertEqual(other.begun(), other.moment())
        self.assertEqual(other.past(other.moment()), house.past(house.moment()))
        for moment in (other.moment() - 1, other.moment() + 1):
            self.assertRaises(NoMoment, other.past, moment)

    def test_a_piece_is_worked_just_where_something_comes_in_from_then_on(self):
        other = come_up(PLAN, made(folds=(14,)).written())
        self.assertEqual((other.total(), {many for _, many in other.works()}), (0, {0}))
        other.deal((("put", "aa", (60, "a")),))
        self.assertGreater(other.total(), 0)
        self.assertEqual(sum(many for _, many in other.works()), other.total())

    def test_pictures_with_a_row_of_another_form(self):
        """No house tells these; they are refused all the same, at the row that is wrong."""
        head = "picture 5 1\nrow aa 1 a\nmay ann aa all 2 k s\nline 0 ann 0 2 1 all aa\nkept 0 3 - 1,a\n"
        come_up(PLAN, head + "entries\n")
        rows = head.splitlines()
        for at, bad in ((0, "picture 5"), (0, "picture 5 1 1"), (0, "picture -5 1"), (0, "picture 5 01"),
                        (1, "row zz 1"), (1, "row aa 1"), (1, "row aa ~ a"), (1, "row aa 1 a b"), (1, "row aa a a"),
                        (2, "may ann zz none"), (2, "may ann aa all 2 s k"), (2, "may Ann aa none"), (2, "may ann aa"),
                        (3, "line 0 ann 0 2 1 all zz"), (3, "line 0 ann 0 1 all aa"), (3, "line 0 ann 0 2 2 all aa"),
                        (4, "kept 1 3 - 1,a"), (4, "kept 0 3 -"), (4, "kept 0 3 - 1,a -"), (4, "kept 0 3 - ,"),
                        (4, "kept 0 3 - 1;"), (4, "kept 0 3 - 10000000000000000,a"), (4, "kept 0 3 - 01,a"),
                        (4, "kept 0 3 - 1,A"), (3, "kept 0 3 - 1,a"), (2, ""), (3, "deal")):
            self.refuses("\n".join(rows[:at] + [bad] + rows[at + 1:]) + "\nentries\n", at)


if __name__ == "__main__":
    unittest.main()
