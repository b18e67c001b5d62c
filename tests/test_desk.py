"""[27] The desk; [4](h); [2] plans and lines of any kind, the first refusal named, a refusal changes nothing."""

import unittest

from standviews.desk import KEEP, Desk
from standviews.errors import Full, NoDeal, NoLetter, NoLine, NoPlan, NoQuestion, NoRight, NoWatcher, ViewError
from tests.things import Text, anything, copied, is_plain, shown, spoilt

PLAN = (
    ("aa", (("k", "number"), ("s", "name"))),
    ("bb", (("id", "name"),)),
)
GIVE = "right ann aa all 2 k s"
WATCH = "watch ann 1 all aa"
# Lines behind which one watches, has heard the newest, and has letters on both of its roads.
BEGUN = (GIVE, WATCH, "deal put aa 1 a put aa 2 ~", "beat 0", "bring 0 0", "say 0", "carry 0 0", "deal put aa 3 c",
         "beat 0", "say 0")
NO_COUNTS = ("", "-", "-0", "-1", "00", "01", "+1", "1.0", "1_0", "10000000000", "1" * 5000, "\u0661", "~", "a", "1a")
# The words of the lines that are no written rows, and how many numbers stand behind each.
NUMBERS = {"beat": 1, "bring": 2, "lose": 2, "double": 2, "say": 1, "carry": 2, "drop": 2, "cut": 1, "off": 1,
           "fold": 0, "fall": 0, "glass": 1, "moment": 0, "works": 0}


def told(desk, numbers=range(4)):
    """What a desk answers of all that it holds, its log but for what is asked here."""
    answers = [outcome(desk, line) for line in ("moment", "works", *[f"glass {w}" for w in numbers])]
    return answers


def outcome(desk, line):
    try:
        return desk.say(line)
    except ViewError as refused:
        return (type(refused).__name__,) + tuple(vars(refused).values())


class Desks(unittest.TestCase):
    def begin(self, *lines):
        self.desk = Desk(PLAN)
        for line in lines:
            self.desk.say(line)

    def says(self, line, answer):
        log = self.desk.log()
        with self.subTest(line):
            found = self.desk.say(line)
            self.assertEqual((found, type(found)), (answer, str))
            self.assertEqual(self.desk.log(), log + ("said",))

    def refuses(self, error, line, *value):
        held, log = told(self.desk), self.desk.log()
        try:
            found = self.desk.say(line)
        except ViewError as refused:
            if type(refused) is not error:
                self.fail(f"{shown(line)} is refused with {type(refused).__name__}")
            self.assertEqual(tuple(vars(refused).values()), value)
        else:
            self.fail(f"{shown(line)} is answered {found}")
        self.assertEqual(self.desk.log(), log + ("refused",))
        self.assertEqual(told(self.desk), held)


class Beginning(Desks):
    def test_of_no_plan(self):
        for thing in anything() + [list(PLAN), PLAN[::-1]]:
            self.assertRaises(NoPlan, Desk, thing)
        for how, where, thing in spoilt(PLAN):
            with self.subTest((how, where)):
                self.assertRaises(NoPlan, Desk, thing)

    def test_keep_is_true(self):
        self.assertIs(KEEP, True)

    def test_nothing_is_said(self):
        self.begin()
        self.assertEqual(self.desk.log(), ())
        self.says("moment", "0")
        self.says("works", "0")


class Lines(Desks):
    def test_written_rows_are_told_by_the_number(self):
        self.begin()
        self.says(GIVE, "1")
        self.says("deal", "2")
        self.says("deal put aa 1 a drop aa 1 put bb x", "3")
        self.says(WATCH, "0")
        self.says("watch bo 3 all aa all bb once all aa", "1")
        self.says("right bo bb rows is id x 1 id", "4")
        self.says("end 0", "yes")
        self.says(WATCH, "2")
        self.says("moment", "4")

    def test_beat_of_a_whole(self):
        self.begin(GIVE, WATCH)
        self.says("beat 0", "whole 0 0 -")
        self.desk.say("deal put aa -5 ~ put aa 10 abc")
        self.says("beat 0", "whole 0 1 -5,~;10,abc")
        self.begin(GIVE, "deal put aa 1 a", "watch ann 3 all aa all bb sums 0 2 x count y most s all aa")
        self.says("beat 0", "whole 0 0 1,a - 1,a")

    def test_beat_of_a_change(self):
        self.begin(*BEGUN)
        self.says("beat 0", "change 0 1 2 - 3,c")
        self.desk.say("deal put aa 1 b")
        self.says("beat 0", "change 0 1 3 1,a 1,b;3,c")
        self.begin(GIVE, "watch ann 2 all bb pick 1 s all aa", "deal put aa 1 a", "beat 0", "bring 0 0", "say 0",
                   "carry 0 0", "deal put aa 2 ~")
        self.says("beat 0", "change 0 1 2 - - - ~")

    def test_beat_of_none_and_full(self):
        self.begin(*BEGUN)
        self.says("bring 0 0", "yes")
        self.says("say 0", "yes")
        self.says("carry 0 1", "yes")
        self.says("beat 0", "none")
        self.begin(WATCH)
        for _ in range(4):
            self.says("beat 0", "whole 0 0 -")
        self.says("beat 0", "full")

    def test_beat_of_another_life(self):
        self.begin(*BEGUN, "cut 0", "say 0", "carry 0 1")
        self.says("beat 0", "whole 1 2 1,a;2,~;3,c")
        self.begin(*BEGUN, "cut 0", "say 0", "carry 0 1", "beat 0", "bring 0 1", "say 0", "carry 0 1", "deal drop aa 3")
        self.says("beat 0", "change 1 2 3 3,c -")

    def test_yes_and_no(self):
        self.begin(*BEGUN)
        self.says("double 0 0", "yes")
        self.says("bring 0 0", "yes")
        self.says("bring 0 0", "no")
        self.says("carry 0 0", "no")
        self.says("say 0", "yes")
        self.says("carry 0 0", "yes")
        for line in ("deal put aa 4 ~", "beat 0", "say 0"):
            self.desk.say(line)
        self.says("lose 0 0", "yes")
        self.says("drop 0 0", "yes")
        for _ in range(4):
            self.says("say 0", "yes")
        self.says("say 0", "no")
        self.says("off 0", "yes")
        self.says("say 0", "yes")
        self.says("cut 0", "yes")
        self.says("fold", "yes")
        self.says("fall", "yes")
        self.says("end 0", "yes")

    def test_glass(self):
        self.begin(GIVE, "watch ann 2 all aa first 2 1 k down all aa", "deal put aa 1 a put aa 2 ~ put aa 3 c")
        self.says("glass 0", "0 -1 - -")
        self.desk.say_all(("beat 0", "bring 0 0"))
        self.says("glass 0", "0 1 1,a;2,~;3,c 3,c;2,~")
        self.desk.say("cut 0")
        self.says("glass 0", "1 -1 - -")

    def test_moment_and_works(self):
        self.begin(*BEGUN)
        self.says("moment", "3")
        self.says("works", "2")
        self.desk.say("watch ann 1 once all aa")
        self.says("works", "2")
        self.desk.say("deal put aa 9 ~")
        self.says("works", "4")

    def test_fold_and_fall(self):
        self.begin(*BEGUN, "fold", "fall")
        self.says("glass 0", "0 1 1,a;2,~")
        self.says("moment", "3")
        self.says("carry 0 0", "yes")
        self.says("beat 0", "change 0 1 2 - 3,c")

    def test_kept_and_room_are_those_of_the_constants(self):
        puts = " ".join(f"put aa {k} a" for k in range(50, 57))
        self.begin(GIVE, WATCH, f"deal {puts}", "beat 0", "bring 0 0", "say 0", "carry 0 0")
        for k in range(7):
            self.desk.say(f"deal put aa {k} a")
        self.desk.say("deal drop aa 0")
        self.assertEqual(self.desk.say("beat 0")[:11], "change 0 1 ")
        self.desk.say("deal put aa 0 a")
        self.assertEqual(self.desk.say("beat 0")[:8], "whole 0 ")

    def test_great_sums(self):
        puts = " ".join(f"put aa {10 ** 9 - k} a" for k in range(3))
        self.begin(GIVE, "watch ann 1 sums 0 1 x sum k all aa", f"deal {puts}")
        self.says("beat 0", "whole 0 1 2999999997")
        self.desk.say_all(("fold", "fall", "bring 0 0"))
        self.says("glass 0", "0 1 2999999997")

    def test_watchers_of_several_figures(self):
        self.begin(*[WATCH] * 11)
        self.says("beat 10", "whole 0 0 -")
        self.says("bring 10 0", "yes")
        self.says("glass 10", "0 0 -")
        self.says("glass 1", "0 -1 -")


class Refused(Desks):
    def setUp(self):
        self.begin(*BEGUN)

    def test_words_too_many_and_too_few(self):
        for word, many in NUMBERS.items():
            for other in range(5):
                if other != many:
                    self.refuses(NoLine, " ".join([word] + ["0"] * other))
            line = " ".join([word] + ["0"] * many)
            for thing in (line + " ", " " + line, line.replace(" ", "  "), line.upper(), line + " x", line + "x",
                          line.replace(" ", "\t"), line + "\t", line + " ~"):
                if thing != line:
                    self.refuses(NoLine, thing)

    def test_numbers_with_a_nought_ahead_or_a_stroke_and_others(self):
        for word, many in NUMBERS.items():
            for at in range(many):
                for number in NO_COUNTS:
                    words = ["0"] * many
                    words[at] = number
                    self.refuses(NoLine, " ".join([word] + words))

    def test_numbers_of_ten_figures(self):
        for word, many in NUMBERS.items():
            if many:
                self.refuses(NoWatcher, " ".join([word, "9999999999"] + ["0"] * (many - 1)), 9999999999)
            if many == 2:
                self.refuses(NoLetter, f"{word} 0 9999999999", 9999999999)

    def test_written_rows_of_other_forms(self):
        for line in ("deal put zz 1", "deal put aa 1", "deal put aa 1 a 2", "deal drop aa", "deal ", "deal x",
                     "right ann aa", "right Ann aa none", "right ann aa some", "watch ann", "watch ann 2 all aa",
                     "watch ann 01 all aa", "watch ann 1 see aa none", "end", "end 00", "end -1", "end x", "end 0 0"):
            self.refuses(NoLine, line)

    def test_other_words(self):
        for line in ("", " ", "go", "turn 1", "torn", "torn fold 1", "rounds 1", "road 0", "back 0", "store", "log",
                     "all aa", "picture 0 0", "entries", "have 0 0 0", "whole 0 0 -", "none", "yes", "~", "0", "mark 0",
                     "put aa 1 a"):
            self.refuses(NoLine, line)

    def test_of_anything(self):
        for thing in anything():
            if type(thing) is not str or "\n" not in thing:
                self.refuses(NoLine, thing)
            self.refuses(NoLine, [thing])
            self.refuses(NoLine, (thing,))
        for thing in (Text("moment"), b"moment", ["moment"], ("beat", 0), ("fold",), 0, True):
            self.refuses(NoLine, thing)

    def test_then_as_the_scene(self):
        self.refuses(NoDeal, "deal put aa 9 ~ drop aa 99", 1)
        self.refuses(NoDeal, "deal drop zz 1", 0)
        self.refuses(NoDeal, "deal put aa ~ a", 0)
        self.refuses(NoDeal, "deal put aa 9999999999 a", 0)
        self.refuses(NoRight, "right ann zz none")
        self.refuses(NoRight, "right ann aa all 2 s k")
        self.refuses(NoQuestion, "watch ann 0")
        self.refuses(NoQuestion, "watch ann 4 all aa all aa all aa all aa")
        self.refuses(NoQuestion, "watch ann 1 all zz")
        for word in ("end", "beat", "say", "cut", "off", "glass"):
            self.refuses(NoWatcher, f"{word} 1", 1)
        for word in ("bring", "lose", "double", "carry", "drop"):
            self.refuses(NoWatcher, f"{word} 1 9", 1)
            self.refuses(NoLetter, f"{word} 0 9", 9)
        for _ in range(3):
            self.desk.say("double 0 0")
        self.refuses(Full, "double 0 0")
        self.refuses(NoLetter, "double 0 4", 4)

    def test_no_line_ahead_of_all(self):
        self.refuses(NoLine, "bring 99 x")
        self.refuses(NoLine, "deal drop aa 99 put zz 1")
        self.refuses(NoLine, "watch ann 1 all zz all aa")

    def test_behind_an_end(self):
        self.desk.say("end 0")
        for word in ("end", "beat", "say", "cut", "off", "glass"):
            self.refuses(NoWatcher, f"{word} 0", 0)


class Many(Desks):
    """say_all"""

    AHEAD = ("deal put aa 7 ~", "beat 0", "bring 0 1", "say 0", "watch bo 1 all bb", "beat 1", "carry 0 1", "cut 0",
             "right bo bb all 1 id", "deal put bb x", "glass 0", "works", "fold", "fall", "end 0", "moment")

    def refuses_all(self, error, lines, **keep):
        with self.assertRaises(error) as caught:
            self.desk.say_all(lines, **keep)
        self.assertEqual(type(caught.exception), error)
        return caught.exception

    def test_the_answers(self):
        for keep in ({}, {"keep": True}, {"keep": False}):
            self.begin(*BEGUN)
            other = Desk(PLAN)
            for line in BEGUN:
                other.say(line)
            answers = self.desk.say_all(self.AHEAD, **keep)
            self.assertEqual(answers, tuple(other.say(line) for line in self.AHEAD))
            self.assertTrue(is_plain(answers))
            self.assertEqual(told(self.desk), told(other))
            self.assertEqual(self.desk.say_all((), **keep), ())

    def test_keep_is_handed_in_by_its_name_alone(self):
        self.begin()
        self.assertRaises(TypeError, self.desk.say_all, (), True)

    def test_a_refused_line_at_each_place_and_what_stays(self):
        for bad, error in (("bogus", NoLine), ("deal drop aa 99", NoDeal), ("beat 9", NoWatcher), (None, NoLine),
                           ("watch ann 0", NoQuestion), ("bring 1 5", (NoLetter, NoWatcher))):
            for at in range(len(self.AHEAD) + 1):
                for keep in ({}, {"keep": True}, {"keep": False}):
                    self.begin(*BEGUN)
                    stays = self.AHEAD[:at] if keep.get("keep", True) else ()
                    with self.assertRaises(error):
                        self.desk.say_all(self.AHEAD[:at] + (bad,) + self.AHEAD[at:], **keep)
                    self.assertEqual(self.desk.log()[len(BEGUN):], ("open",) + ("said",) * at + ("refused", "shut"))
                    self.is_as_behind(BEGUN + stays)

    def is_as_behind(self, lines):
        """The desk is, in all that it answers from now on, as one to which just these lines were said."""
        other = Desk(PLAN)
        for line in lines:
            other.say(line)
        self.assertEqual(told(self.desk), told(other))
        for line in ("beat 0", "carry 0 0", "bring 0 0", "bring 1 0", "watch cy 1 all aa", "deal put aa 77 ~", "beat 0",
                     "beat 1", "bring 0 0", "say 0", "carry 0 0", "deal put aa 78 ~", "beat 0", "fall", "beat 0"):
            self.assertEqual(outcome(self.desk, line), outcome(other, line))
        self.assertEqual(told(self.desk), told(other))

    def test_it_is_refused_as_there(self):
        self.begin(*BEGUN)
        for keep in (True, False):
            self.assertEqual(self.refuses_all(NoDeal, ("deal put aa 8 ~ drop aa 99",), keep=keep).at, 1)
            self.assertEqual(self.refuses_all(NoWatcher, ("moment", "cut 7"), keep=keep).w, 7)
            self.assertEqual(self.refuses_all(NoLetter, ("beat 0", "double 0 9"), keep=keep).i, 9)
            self.refuses_all(Full, ("beat 0",) + ("double 0 0",) * 9, keep=keep)

    def test_the_first_that_is_refused_ends_it(self):
        self.begin(*BEGUN)
        self.refuses_all(NoWatcher, ("beat 5", "bogus", "deal put aa 8 ~"))
        self.says("moment", "3")

    def test_what_did_not_stay_is_said_again(self):
        self.begin()
        for _ in range(3):
            self.refuses_all(NoLine, (*BEGUN, "bogus"), keep=False)
            self.says("moment", "0")
        self.begin(*BEGUN)
        self.refuses_all(NoLine, (*self.AHEAD, "bogus"), keep=False)
        self.assertEqual(self.desk.say_all(self.AHEAD, keep=False), self.answers(self.AHEAD))
        self.is_as_behind(BEGUN + self.AHEAD)

    def answers(self, lines):
        other = Desk(PLAN)
        for line in BEGUN:
            other.say(line)
        return tuple(other.say(line) for line in lines)

    def test_many_ahead_that_stay_stay_behind_one_that_does_not(self):
        self.begin()
        self.desk.say_all(BEGUN[:3])
        self.refuses_all(NoLine, BEGUN[3:6] + ("bogus",))
        self.refuses_all(NoLine, ("deal put aa 60 ~", "bogus"), keep=False)
        self.desk.say_all(BEGUN[6:], keep=False)
        self.refuses_all(NoWatcher, ("fold", "end 0", "end 0"), keep=False)
        self.is_as_behind(BEGUN)

    def test_of_anything_in_it(self):
        self.begin(*BEGUN)
        held = told(self.desk)
        for thing in anything():
            if type(thing) is not str or "\n" not in thing:
                for keep in (True, False):
                    self.refuses_all(NoLine, (thing,), keep=keep)
                    self.refuses_all(NoLine, ("moment", thing, "end 0"), keep=keep)
        self.assertEqual(told(self.desk), held)

    def test_of_no_tuple(self):
        self.begin(*BEGUN)
        for thing in [["moment"], "moment", None] + anything():
            if type(thing) is not tuple:
                held, log = told(self.desk), self.desk.log()
                self.refuses_all(NoLine, thing)
                self.assertEqual(self.desk.log(), log + ("open", "shut"))
                self.assertEqual(told(self.desk), held)

    def test_what_is_handed_in_stays(self):
        held = copied((PLAN, self.AHEAD))
        self.begin(*BEGUN)
        self.desk.say_all(self.AHEAD)
        self.refuses_all(NoWatcher, self.AHEAD, keep=False)
        self.assertEqual((PLAN, self.AHEAD), held)

    def test_two_are_each_their_own(self):
        self.begin(*BEGUN)
        other = Desk(PLAN)
        self.assertEqual((other.say("moment"), other.log()), ("0", ("said",)))


class Logs(Desks):
    def test_of_all_of_these(self):
        self.begin()
        for line in ("moment", "bogus", GIVE, "end 5", None, WATCH, "beat 0"):
            outcome(self.desk, line)
        self.assertEqual(self.desk.log(), ("said", "refused", "said", "refused", "refused", "said", "said"))
        self.assertTrue(is_plain(self.desk.log()))

    def test_open_and_shut(self):
        self.begin()
        self.desk.say_all(())
        self.desk.say_all((GIVE, WATCH))
        for keep in (True, False):
            with self.assertRaises(NoWatcher):
                self.desk.say_all((WATCH, "end 9", WATCH), keep=keep)
        with self.assertRaises(NoLine):
            self.desk.say_all(("bogus",))
        self.desk.say_all(("moment",), keep=False)
        self.assertEqual(self.desk.log(), (
            "open", "shut", "open", "said", "said", "shut", "open", "said", "refused", "shut",
            "open", "said", "refused", "shut", "open", "refused", "shut", "open", "said", "shut"))

    def test_what_was_told_stays(self):
        self.begin(GIVE)
        log = self.desk.log()
        self.desk.say("moment")
        self.assertEqual(log, ("said",))


if __name__ == "__main__":
    unittest.main()
