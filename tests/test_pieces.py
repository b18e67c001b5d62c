"""[13] Pieces kept by changes; [4](e) alike pieces are one; [2] refusals that change nothing."""

import random
import unittest

from standviews.answers import answer
from standviews.errors import NoPiece
from standviews.parts import parts_of, under
from standviews.pieces import Pieces
from standviews.rights import seen
from standviews.showing import show_question
from tests import making, plain
from tests.things import Row, anything, copied, is_plain

PLAN = (
    ("aa", (("k", "number"), ("s", "name"), ("n", "number"))),
    ("bb", (("id", "name"), ("m", "number"))),
)
SEE = ("see", "aa", (None, ("k", "s", "n")))
SEE_BB = ("see", "bb", (None, ("id", "m")))
NOTHING = ((), ())
EMPTY = ((), ())
STORE = (((1, "a", 5), (2, "b", 6), (3, "a", None)), (("a", 1), ("b", None)))


def see(check, *names):
    return ("see", "aa", (check, names))


class Moves(unittest.TestCase):
    """One piece, kept over moves of the two tables."""

    def begin(self, piece, aa=(), bb=()):
        self.pieces, self.piece = Pieces(PLAN, (aa, bb)), piece
        self.aa, self.bb = aa, bb
        self.pieces.need(piece)

    def has(self, *rows):
        self.assertEqual(self.pieces.bag(self.piece), rows)
        self.assertTrue(is_plain(self.pieces.bag(self.piece)))

    def moves(self, gone, come, *, aa=None, bb=None):
        """To a store with these tables, by this change, to the rows that are plainly the piece's."""
        ahead = self.pieces.bag(self.piece)
        self.aa = self.aa if aa is None else plain.bag(aa)
        self.bb = self.bb if bb is None else plain.bag(bb)
        self.pieces.move((self.aa, self.bb))
        self.assertEqual(self.pieces.last(self.piece), (gone, come))
        self.assertTrue(is_plain(self.pieces.last(self.piece)))
        self.has(*plain.bag(plain.rows(PLAN, self.piece, (self.aa, self.bb))))
        self.assertEqual(plain.change(ahead, self.pieces.bag(self.piece)), (gone, come))

    def works(self):
        return [worked for piece, worked in self.pieces.works() if piece == self.piece][0]


class Leaves(Moves):
    def test_rows_come_go_and_come_back(self):
        self.begin(SEE)
        self.has()
        self.moves((), ((1, "a", 5),), aa=((1, "a", 5),))
        self.moves((), ((0, None, 1), (2, "a", 5)), aa=((0, None, 1), (1, "a", 5), (2, "a", 5)))
        self.moves(((1, "a", 5),), (), aa=((0, None, 1), (2, "a", 5)))
        self.moves((), ((1, "a", 5),), aa=((0, None, 1), (1, "a", 5), (2, "a", 5)))
        self.moves(((2, "a", 5),), ((2, "b", 5),), aa=((0, None, 1), (1, "a", 5), (2, "b", 5)))
        self.moves(((0, None, 1), (1, "a", 5), (2, "b", 5)), (), aa=())
        self.assertEqual(self.works(), 6)

    def test_under_a_right_by_rows_and_columns(self):
        self.begin(see(("is", "s", "a"), "n"), ((1, "a", 5), (2, "b", 6), (3, "a", 5)))
        self.has((None, None, 5), (None, None, 5))
        self.moves((), ((None, None, 5),), aa=((1, "a", 5), (2, "a", 5), (3, "a", 5)))
        self.moves(((None, None, 5), (None, None, 5)), (), aa=((1, "a", 5), (2, "b", 5), (3, None, 5)))

    def test_under_none_it_is_worked_but_never_changes(self):
        self.begin(("see", "aa", None), ((1, "a", 5),))
        self.has()
        self.moves((), (), aa=((2, "a", 5),))
        self.assertEqual(self.works(), 1)

    def test_a_move_that_changes_only_what_is_not_seen(self):
        self.begin(("once", see(("is", "s", "a"), "k")), ((1, "a", 5), (2, "b", 6)))
        self.moves((), (), aa=((1, "a", 7), (2, "b", 6)))
        self.moves((), (), aa=((1, "a", 7), (2, "b", 8), (3, "c", 1)))
        self.assertEqual(self.pieces.works(), ((("once", see(("is", "s", "a"), "k")), 0), (self.piece[1], 2)))
        self.assertEqual(self.pieces.last(self.piece[1]), NOTHING)
        self.moves((), ((4, None, None),), aa=((1, "a", 7), (2, "b", 8), (4, "a", 1)))
        self.assertEqual(self.pieces.works(), ((("once", see(("is", "s", "a"), "k")), 1), (self.piece[1], 3)))

    def test_a_move_that_leaves_the_table_as_it_is(self):
        self.begin(SEE, ((1, "a", 5),))
        self.moves((), ((2, "a", 5),), aa=((1, "a", 5), (2, "a", 5)))
        self.moves((), (), bb=(("a", 1),))
        self.moves((), ())
        self.assertEqual(self.works(), 1)
        self.assertEqual(self.pieces.total(), 1)


class OneSided(Moves):
    def test_where(self):
        self.begin(("where", ("below", "n", 5), SEE), ((1, "a", 4), (2, "a", 5)))
        self.has((1, "a", 4))
        self.moves((), (), aa=((1, "a", 4), (2, "a", 6)))
        self.assertEqual(self.works(), 1)
        self.moves((), ((2, "a", 3), (3, None, 0)), aa=((1, "a", 4), (2, "a", 3), (3, None, 0)))
        self.moves(((1, "a", 4),), ((1, "b", 4),), aa=((1, "b", 4), (2, "a", 3), (3, None, 0)))
        self.moves(((1, "b", 4), (2, "a", 3)), (), aa=((1, "b", None), (3, None, 0)))

    def test_pick_of_rows_that_are_alike_then(self):
        self.begin(("pick", ("s",), SEE), ((1, "a", 4), (2, "a", 5)))
        self.moves((), (("a",), (None,))[::-1], aa=((1, "a", 4), (2, "a", 5), (3, "a", 5), (4, None, 5)))
        self.moves((("a",), ("a",)), (), aa=((3, "a", 5), (4, None, 5)))
        self.moves((), (), aa=((3, "a", 9), (4, None, 7)))
        self.assertEqual(self.works(), 3)

    def test_called(self):
        self.begin(("where", ("is", "n", "a"), ("called", ("k", "n", "s"), SEE)), ((1, "a", 4),))
        self.moves(((1, "a", 4),), ((2, "a", 4),), aa=((1, "b", 4), (2, "a", 4)))
        self.assertEqual(self.pieces.last(self.piece[2]), (((1, "a", 4),), ((1, "b", 4), (2, "a", 4))))

    def test_once_as_alike_rows_come_and_go(self):
        self.begin(("once", ("pick", ("s",), SEE)), ((1, "a", 4),))
        self.moves((), (), aa=((1, "a", 4), (2, "a", 4)))
        self.assertEqual(self.works(), 1)
        self.moves((), (("b",),), aa=((1, "a", 4), (2, "a", 4), (3, "b", 4), (4, "b", 1)))
        self.moves((), (), aa=((2, "a", 4), (3, "b", 4)))
        self.moves((("a",),), (), aa=((3, "b", 4),))
        self.moves((("b",),), (("a",),), aa=((4, "a", 4), (5, "a", 4)))

    def test_counts_and_sums_as_groups_come_and_go(self):
        self.begin(("sums", ("s",), (("x", "count", None), ("y", "sum", "n")), SEE))
        self.moves((), (("a", 2, 9),), aa=((1, "a", 4), (2, "a", 5)))
        self.moves((("a", 2, 9),), ((None, 1, 0), ("a", 3, 9)),
                   aa=((1, "a", 4), (2, "a", 5), (3, "a", None), (4, None, None)))
        self.moves((), (), aa=((1, "a", 5), (2, "a", 4), (3, "a", None), (4, None, None)))
        self.moves(((None, 1, 0), ("a", 3, 9)), (("a", 1, 0), ("b", 2, 9)),
                   aa=((1, "b", 5), (2, "b", 4), (3, "a", None)))
        self.moves((("a", 1, 0), ("b", 2, 9)), (), aa=())

    def test_least_and_most_as_those_go_and_come(self):
        self.begin(("sums", ("s",), (("x", "least", "n"), ("y", "most", "n")), SEE), ((1, "a", 4), (2, "a", 5)))
        self.has(("a", 4, 5))
        self.moves((("a", 4, 5),), (("a", 5, 5),), aa=((2, "a", 5),))
        self.moves((("a", 5, 5),), (("a", 1, 9),), aa=((2, "a", 5), (3, "a", 1), (4, "a", 9), (5, "a", None)))
        self.moves((), (), aa=((3, "a", 1), (4, "a", 9)))
        self.moves((("a", 1, 9),), (("a", None, None),), aa=((5, "a", None),))
        self.moves((("a", None, None),), (("a", 0, 0),), aa=((5, "a", 0),))

    def test_sums_without_groups(self):
        self.begin(("sums", (), (("x", "count", None), ("y", "most", "s")), SEE))
        self.has()
        self.moves((), ((1, "a"),), aa=((1, "a", 4),))
        self.moves(((1, "a"),), ((2, "b"),), aa=((1, "a", 4), (2, "b", 4)))
        self.moves((), (), aa=((1, "a", 7), (2, "b", 4)))
        self.moves(((2, "b"),), (), aa=())

    def test_first_as_rows_ahead_of_the_told_ones_come_and_go(self):
        self.begin(("first", 2, (("n", "down"),), SEE), ((1, "a", 4), (2, "a", 5), (3, "a", 6), (4, "a", 7)))
        self.has((3, "a", 6), (4, "a", 7))
        self.moves(((4, "a", 7),), ((2, "a", 5),), aa=((1, "a", 4), (2, "a", 5), (3, "a", 6)))
        self.moves(((2, "a", 5), (3, "a", 6)), ((5, "a", 9), (6, "a", 8)),
                   aa=((1, "a", 4), (2, "a", 5), (3, "a", 6), (5, "a", 9), (6, "a", 8)))
        self.moves((), (), aa=((2, "a", 5), (3, "a", 6), (5, "a", 9), (6, "a", 8)))
        self.assertEqual(self.works(), 3)
        self.moves(((5, "a", 9), (6, "a", 8)), ((3, "a", 6),), aa=((3, "a", 6),))

    def test_first_of_alike_rows(self):
        self.begin(("first", 2, (), ("pick", ("s",), SEE)), ((1, "b", 4), (2, "a", 5), (3, "b", 6)))
        self.has(("a",), ("b",))
        self.moves((("b",),), (("a",),), aa=((1, "b", 4), (2, "a", 5), (3, "b", 6), (4, "a", 1)))
        self.moves((("a",), ("a",)), (("b",), ("b",)), aa=((1, "b", 4), (3, "b", 6)))

    def test_a_first_is_kept_as_a_bag(self):
        self.begin(("first", 3, (("k", "down"),), SEE), ((1, "a", 4), (2, "a", 5), (3, "a", 6), (4, "a", 6)))
        self.has((2, "a", 5), (3, "a", 6), (4, "a", 6))


class TwoSided(Moves):
    JOIN = ("join", "n", "m", SEE, SEE_BB)
    LACKING = ("lacking", "n", "m", SEE, SEE_BB)

    def test_join_as_each_side_moves(self):
        self.begin(self.JOIN, ((1, "a", 4), (2, "a", None)), (("x", 4), ("y", None)))
        self.has((1, "a", 4, "x", 4))
        self.moves((), ((1, "a", 4, "z", 4),), bb=(("x", 4), ("y", None), ("z", 4)))
        self.moves((), ((3, "b", 4, "x", 4), (3, "b", 4, "z", 4)), aa=((1, "a", 4), (2, "a", None), (3, "b", 4)))
        self.moves(((1, "a", 4, "x", 4), (3, "b", 4, "x", 4)), (), bb=(("y", None), ("z", 4)))
        self.moves((), (), aa=((1, "a", 4), (2, "b", None), (3, "b", 4), (4, "a", 9)))

    def test_join_as_both_sides_move_at_once(self):
        self.begin(self.JOIN, ((1, "a", 4),), (("x", 4),))
        self.moves((), ((1, "a", 4, "y", 4), (2, "a", 4, "x", 4), (2, "a", 4, "y", 4)),
                   aa=((1, "a", 4), (2, "a", 4)), bb=(("x", 4), ("y", 4)))
        self.moves(((1, "a", 4, "x", 4), (1, "a", 4, "y", 4), (2, "a", 4, "x", 4), (2, "a", 4, "y", 4)),
                   ((2, "a", 5, "x", 5), (3, "a", 4, "z", 4)), aa=((2, "a", 5), (3, "a", 4)), bb=(("x", 5), ("z", 4)))
        self.moves(((2, "a", 5, "x", 5), (3, "a", 4, "z", 4)), ((2, "a", 4, "x", 4), (3, "a", 5, "z", 5)),
                   aa=((2, "a", 4), (3, "a", 5)), bb=(("x", 4), ("z", 5)))
        self.moves(((2, "a", 4, "x", 4), (3, "a", 5, "z", 5)), (), aa=((2, "a", 4),), bb=(("z", 5),))
        self.assertEqual(self.works(), 4)

    def test_join_of_rows_that_are_there_several_times(self):
        self.begin(("join", "n", "m", ("pick", ("n",), SEE), ("pick", ("m",), SEE_BB)),
                   ((1, "a", 4), (2, "a", 4)), (("x", 4), ("y", 4), ("z", 4)))
        self.has(*[(4, 4)] * 6)
        self.moves(((4, 4), (4, 4)), (), aa=((1, "a", 4), (2, "a", 4)), bb=(("x", 4), ("z", 4)))
        self.moves((), ((4, 4),) * 5, aa=((1, "a", 4), (2, "a", 4), (3, "a", 4)), bb=(("x", 4), ("y", 4), ("z", 4)))

    def test_join_of_a_piece_with_itself(self):
        self.begin(("join", "s", "y", SEE, ("called", ("x", "y", "z"), SEE)), ((1, "a", 4),))
        self.moves((), ((1, "a", 4, 2, "a", 5), (2, "a", 5, 1, "a", 4), (2, "a", 5, 2, "a", 5)),
                   aa=((1, "a", 4), (2, "a", 5)))
        self.moves(((1, "a", 4, 1, "a", 4), (1, "a", 4, 2, "a", 5), (2, "a", 5, 1, "a", 4)), ((1, "b", 4, 1, "b", 4),),
                   aa=((1, "b", 4), (2, "a", 5)))

    def test_lacking_as_the_other_side_s_rows_come_and_go(self):
        self.begin(self.LACKING, ((1, "a", 4), (2, "a", 5), (3, "a", None)), (("x", None),))
        self.has((1, "a", 4), (2, "a", 5), (3, "a", None))
        self.moves(((1, "a", 4),), (), bb=(("x", None), ("y", 4)))
        self.moves((), (), bb=(("x", 4), ("y", 4)))
        self.moves((), (), bb=(("x", 4),))
        self.moves((), ((1, "a", 4),), bb=(("x", 7),))
        self.moves(((2, "a", 5),), (), bb=(("x", 5), ("y", None)))
        self.assertEqual(self.works(), 5)

    def test_lacking_as_both_sides_move_at_once(self):
        self.begin(self.LACKING, ((1, "a", 4), (2, "a", 5)), (("x", 5),))
        self.moves(((1, "a", 4),), ((2, "a", 5), (3, "a", 6)), aa=((1, "a", 4), (2, "a", 5), (3, "a", 6)),
                   bb=(("x", 4),))
        self.moves(((2, "a", 5),), ((2, "a", 7),), aa=((1, "a", 4), (2, "a", 7), (3, "a", 6)), bb=(("x", 4), ("y", 5)))
        self.moves(((2, "a", 7), (3, "a", 6)), ((1, "a", None),), aa=((1, "a", None), (2, "a", 4)))

    def test_lacking_of_a_piece_in_itself(self):
        self.begin(("lacking", "s", "s", SEE, SEE), ((1, "a", 4), (2, None, 5)))
        self.has((2, None, 5))
        self.moves((), ((1, None, 4),), aa=((1, None, 4), (2, None, 5), (3, "b", 1)))

    def test_two_tables_under_rights(self):
        left, right = see(("below", "k", 3), "k", "n"), ("see", "bb", (None, ("m",)))
        self.begin(("join", "n", "m", left, right), ((1, "a", 4), (5, "a", 4)), (("x", 4),))
        self.has((1, None, 4, None, 4))
        self.moves((), ((1, None, 4, None, 4), (2, None, 4, None, 4), (2, None, 4, None, 4)),
                   aa=((1, "z", 4), (2, "a", 4), (6, "a", 4)), bb=(("x", 4), ("y", 4)))


class Kept(unittest.TestCase):
    def setUp(self):
        self.pieces = Pieces(PLAN, STORE)

    def kept(self, *pieces):
        """Just these are kept, each given with how often it was worked, by text rising."""
        self.assertEqual(self.pieces.works(), pieces)
        self.assertTrue(is_plain(self.pieces.works()))
        self.assertEqual(len(self.pieces), len(pieces))

    def gone(self, *pieces):
        for piece in pieces:
            self.assertRaises(NoPiece, self.pieces.bag, piece)
            self.assertRaises(NoPiece, self.pieces.last, piece)
            self.assertRaises(NoPiece, self.pieces.leave, piece)

    def test_of_none(self):
        self.kept()
        self.assertEqual(self.pieces.total(), 0)
        self.pieces.move(EMPTY)
        self.assertEqual(self.pieces.total(), 0)
        self.gone(SEE, SEE_BB, ("once", SEE))

    def test_methods_that_tell_nothing(self):
        self.assertIsNone(self.pieces.need(SEE))
        self.assertIsNone(self.pieces.move(STORE))
        self.assertIsNone(self.pieces.leave(SEE))

    def test_all_parts_are_kept(self):
        join = ("join", "s", "id", ("once", SEE), SEE_BB)
        self.pieces.need(join)
        self.kept((join, 0), (("once", SEE), 0), (SEE, 0), (SEE_BB, 0))
        self.assertEqual(self.pieces.bag(SEE_BB), STORE[1])
        self.assertEqual(self.pieces.bag(("once", SEE)), STORE[0])
        self.assertEqual(self.pieces.bag(join), ((1, "a", 5, "a", 1), (2, "b", 6, "b", None), (3, "a", None, "a", 1)))
        for part in parts_of(join):
            self.assertEqual(self.pieces.last(part), NOTHING)

    def test_a_piece_of_works_stands_by_its_text(self):
        for piece in (SEE, ("first", 10, (), SEE), ("first", 2, (), SEE), ("once", SEE)):
            self.pieces.need(piece)
        self.kept((("first", 10, (), SEE), 0), (("first", 2, (), SEE), 0), (("once", SEE), 0), (SEE, 0))

    def test_a_piece_needed_twice_and_left_once(self):
        self.pieces.need(("once", SEE))
        self.pieces.need(("once", SEE))
        self.kept((("once", SEE), 0), (SEE, 0))
        self.pieces.leave(("once", SEE))
        self.kept((("once", SEE), 0), (SEE, 0))
        self.pieces.leave(("once", SEE))
        self.kept()
        self.gone(("once", SEE), SEE)

    def test_a_piece_that_is_kept_only_as_a_part(self):
        self.pieces.need(("once", SEE))
        with self.assertRaises(NoPiece):
            self.pieces.leave(SEE)
        self.kept((("once", SEE), 0), (SEE, 0))
        self.assertEqual(self.pieces.bag(SEE), STORE[0])
        self.pieces.need(SEE)
        self.pieces.leave(("once", SEE))
        self.kept((SEE, 0))
        self.gone(("once", SEE))
        self.pieces.leave(SEE)
        self.kept()

    def test_a_piece_that_is_left_but_kept_as_a_part(self):
        self.pieces.need(SEE)
        self.pieces.need(("once", SEE))
        self.pieces.leave(SEE)
        self.kept((("once", SEE), 0), (SEE, 0))
        self.assertRaises(NoPiece, self.pieces.leave, SEE)
        self.pieces.leave(("once", SEE))
        self.kept()

    def test_a_part_is_kept_as_long_as_any_has_it(self):
        pick = ("pick", ("s",), SEE)
        self.pieces.need(("once", pick))
        self.pieces.need(("first", 1, (), pick))
        self.pieces.leave(("once", pick))
        self.kept((("first", 1, (), pick), 0), (pick, 0), (SEE, 0))
        self.pieces.need(("lacking", "s", "s", pick, SEE))
        self.pieces.leave(("first", 1, (), pick))
        self.kept((("lacking", "s", "s", pick, SEE), 0), (pick, 0), (SEE, 0))
        self.pieces.move(((), STORE[1]))
        self.kept((("lacking", "s", "s", pick, SEE), 1), (pick, 1), (SEE, 1))
        self.pieces.leave(("lacking", "s", "s", pick, SEE))
        self.kept()

    def test_a_part_that_stands_several_times_in_a_piece(self):
        twice = ("lacking", "s", "s", SEE, ("lacking", "s", "s", SEE, SEE))
        self.pieces.need(twice)
        self.kept((twice, 0), (twice[4], 0), (SEE, 0))
        self.pieces.move(((), STORE[1]))
        self.kept((twice, 1), (twice[4], 1), (SEE, 1))
        self.assertEqual(self.pieces.total(), 3)
        self.pieces.move(((), ()))
        self.kept((twice, 1), (twice[4], 1), (SEE, 1))
        self.pieces.leave(twice)
        self.kept()
        self.gone(SEE)

    def test_a_piece_left_and_needed_anew(self):
        once = ("once", SEE)
        self.pieces.need(once)
        self.pieces.move((STORE[0][:1], STORE[1]))
        self.kept((once, 1), (SEE, 1))
        self.pieces.leave(once)
        self.pieces.move((STORE[0][1:], STORE[1]))
        self.assertEqual(self.pieces.total(), 2)
        self.pieces.need(once)
        self.kept((once, 0), (SEE, 0))
        self.assertEqual(self.pieces.bag(once), STORE[0][1:])
        self.assertEqual(self.pieces.last(once), NOTHING)
        self.pieces.move(STORE)
        self.kept((once, 1), (SEE, 1))
        self.assertEqual(self.pieces.last(once), ((), STORE[0][:1]))
        self.assertEqual(self.pieces.total(), 4)

    def test_a_piece_left_and_needed_anew_with_no_move_between(self):
        self.pieces.need(SEE)
        self.pieces.move((STORE[0][:1], STORE[1]))
        self.pieces.leave(SEE)
        self.pieces.need(SEE)
        self.assertEqual(self.pieces.last(SEE), NOTHING)
        self.kept((SEE, 0))
        self.assertEqual(self.pieces.total(), 1)

    def test_works_count_from_when_a_piece_is_kept(self):
        self.pieces.need(SEE)
        self.pieces.move((STORE[0][:1], STORE[1]))
        self.pieces.need(("once", SEE))
        self.kept((("once", SEE), 0), (SEE, 1))
        self.assertEqual(self.pieces.last(("once", SEE)), NOTHING)
        self.assertEqual(self.pieces.last(SEE), (STORE[0][1:], ()))
        self.pieces.move(STORE)
        self.kept((("once", SEE), 1), (SEE, 2))
        self.pieces.need(SEE)
        self.kept((("once", SEE), 1), (SEE, 2))

    def test_total_counts_those_gone_too(self):
        self.pieces.need(("once", SEE))
        self.pieces.move((STORE[0][:1], STORE[1]))
        self.pieces.leave(("once", SEE))
        self.assertEqual(self.pieces.total(), 2)
        self.pieces.need(SEE_BB)
        self.pieces.move((STORE[0], ()))
        self.assertEqual(self.pieces.total(), 3)

    def test_last_is_empty_where_a_move_did_not_work_it(self):
        self.pieces.need(("once", SEE))
        self.pieces.move((STORE[0][:1], STORE[1]))
        self.assertEqual(self.pieces.last(("once", SEE)), (STORE[0][1:], ()))
        self.pieces.move((STORE[0][:1], ()))
        self.assertEqual(self.pieces.last(("once", SEE)), NOTHING)
        self.assertEqual(self.pieces.last(SEE), NOTHING)
        self.kept((("once", SEE), 1), (SEE, 1))

    def test_another_who_needs_it_works_nothing_more(self):
        other = Pieces(PLAN, STORE)
        piece = ("sums", ("s",), (("x", "count", None),), ("once", SEE))
        self.pieces.need(piece)
        for _ in range(5):
            other.need(piece)
        for store in ((STORE[0][:1], STORE[1]), STORE, EMPTY, EMPTY, STORE):
            self.pieces.move(store)
            other.move(store)
            self.assertEqual(self.pieces.works(), other.works())
            self.assertEqual(self.pieces.total(), other.total())
        self.assertEqual(self.pieces.total(), 12)

    def test_unlike_rights_are_unlike_pieces(self):
        self.pieces.need(SEE)
        self.pieces.need(("see", "aa", None))
        self.pieces.need(see(None, "k"))
        self.assertEqual(len(self.pieces), 3)
        self.assertEqual(self.pieces.bag(see(None, "k")), ((1, None, None), (2, None, None), (3, None, None)))
        self.assertEqual(self.pieces.bag(("see", "aa", None)), ())

    def test_two_are_each_their_own(self):
        other = Pieces(PLAN, EMPTY)
        self.pieces.need(SEE)
        self.assertEqual((len(other), other.works()), (0, ()))
        self.assertRaises(NoPiece, other.bag, SEE)

    def test_what_is_handed_in_stays(self):
        piece = ("lacking", "s", "s", SEE, ("once", SEE))
        held = copied((PLAN, STORE, piece))
        self.pieces.need(piece)
        self.pieces.move((STORE[0][:1], ()))
        self.pieces.leave(piece)
        self.assertEqual((PLAN, STORE, piece), held)


class Refused(unittest.TestCase):
    def test_what_is_not_kept_or_needed_and_no_refusal_changes_a_thing(self):
        pieces = Pieces(PLAN, STORE)
        pieces.need(("once", SEE))
        pieces.move((STORE[0][:1], STORE[1]))
        others = [SEE_BB, ("once", SEE_BB), ("once", ("once", SEE)), see(None, "k"), ("see", "aa", None),
                  ("once", ("all", "aa")), ("all", "aa"), list(SEE), Row(SEE), ("once", list(SEE)), ("see", "aa"),
                  ("see", "cc", None), show_question(SEE), ("see", "aa", (None, ["k", "s", "n"])), ("once", (SEE,))]
        for thing in others + anything() + [("once", thing) for thing in anything()]:
            for asked in (pieces.bag, pieces.last, pieces.leave):
                with self.assertRaises(NoPiece):
                    asked(thing)
        with self.assertRaises(NoPiece):
            pieces.leave(SEE)
        self.assertEqual(pieces.works(), ((("once", SEE), 1), (SEE, 1)))
        self.assertEqual(pieces.bag(SEE), STORE[0][:1])
        self.assertEqual(pieces.last(SEE), (STORE[0][1:], ()))
        pieces.leave(("once", SEE))
        self.assertEqual(len(pieces), 0)


class Model:
    """What Pieces is to be, in the plainest way: each bag is made anew at each time."""

    def __init__(self, store):
        self.store, self.needed, self.worked, self.last, self.total = store, [], [], [], 0

    def kept(self):
        told = []
        for piece in self.needed:
            told += [part for part in plain.parts(piece) if part not in told]
        return told

    def bag(self, piece, store=None):
        return plain.bag(plain.rows(making.PLAN, piece, self.store if store is None else store))

    def settle(self):
        """Behind a need or a leave: those that came have been worked nothing, those that went are forgotten."""
        worked, last = self.told(self.worked), self.told(self.last)
        self.worked = [(part, worked(part, 0)) for part in self.kept()]
        self.last = [(part, last(part, NOTHING)) for part in self.kept()]

    def told(self, pairs):
        return lambda part, other: ([worth for piece, worth in pairs if piece == part] + [other])[0]

    def comes_in(self, part, store):
        if part[0] == "see":
            at = [name for name, _ in making.PLAN].index(part[1])
            return self.store[at] != store[at]
        return any(self.bag(inner) != self.bag(inner, store) for inner in plain.within(part))

    def move(self, store):
        worked = self.told(self.worked)
        into = [part for part in self.kept() if self.comes_in(part, store)]
        self.worked = [(part, worked(part, 0) + (part in into)) for part in self.kept()]
        self.last = [(part, plain.change(self.bag(part), self.bag(part, store))) for part in self.kept()]
        self.total += len(into)
        self.store = store


class ByChance(unittest.TestCase):
    def alike(self, pieces, model):
        kept = model.kept()
        self.assertEqual(len(pieces), len(kept))
        self.assertEqual(pieces.works(), tuple(sorted(model.worked, key=lambda pair: show_question(pair[0]))))
        self.assertEqual(pieces.total(), model.total)
        last = model.told(model.last)
        for part in kept:
            self.assertEqual(pieces.bag(part), model.bag(part), part)
            self.assertEqual(pieces.last(part), last(part, None), part)

    def step(self, chance, pieces, model, made):
        act = chance.choice(("need", "need", "leave", "move", "move", "move", "move"))
        if act == "need":
            piece = chance.choice(made)
            pieces.need(piece)
            model.needed.append(piece)
            model.settle()
        elif act == "leave":
            piece = chance.choice(made)
            if piece in model.needed:
                pieces.leave(piece)
                model.needed.remove(piece)
                model.settle()
            else:
                with self.assertRaises(NoPiece):
                    pieces.leave(piece)
        else:
            store = making.moved(chance, model.store)
            pieces.move(store)
            model.move(store)

    def test_scripts_of_needs_leaves_and_moves(self):
        for seed in range(60):
            chance = random.Random(seed)
            store = making.store(chance)
            pieces, model = Pieces(making.PLAN, store), Model(store)
            rights = (making.rights(chance), making.rights(chance))
            made = [under(making.PLAN, making.question(chance, 7), chance.choice(rights)) for _ in range(5)]
            for _ in range(25):
                self.step(chance, pieces, model, made)
                self.alike(pieces, model)

    def test_each_form_over_moves_is_the_answer_over_what_is_seen(self):
        chance = random.Random(11)
        for question in making.of_each_word(chance, 40, 6):
            rights = making.rights(chance)
            piece, store = under(making.PLAN, question, rights), making.store(chance, 6)
            pieces = Pieces(making.PLAN, store)
            pieces.need(piece)
            for _ in range(8):
                ahead = pieces.bag(piece)
                store = making.moved(chance, store)
                pieces.move(store)
                told = answer(making.PLAN, question, seen(making.PLAN, store, rights))
                self.assertEqual(pieces.bag(piece), plain.bag(told), piece)
                self.assertEqual(pieces.last(piece), plain.change(ahead, pieces.bag(piece)), piece)


if __name__ == "__main__":
    unittest.main()
