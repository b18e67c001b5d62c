"""[17] Roads; [2] refusals that change nothing, the first named."""

import random
import unittest

from standviews.errors import Full, NoLetter
from standviews.roads import ROOM, Road
from tests.things import anything, copied, is_plain

A, B, C, D = ("have", 0, 0, -1), ("have", 0, 0, 0), ("whole", 0, 0, 0, ((),)), ("change", 0, 0, 0, 1, (((), ()),))


def road(*letters, **room):
    made = Road(**room)
    for letter in letters:
        made.put(letter)
    return made


class Rooms(unittest.TestCase):
    def test_room_is_four(self):
        self.assertEqual(ROOM, 4)
        self.assertIs(type(ROOM), int)

    def test_room_is_handed_in_by_its_name_alone(self):
        self.assertRaises(TypeError, Road, 4)

    def test_there_is_room_for_just_so_many(self):
        for room in (1, 2, 3, 4, 7):
            made = Road(room=room)
            for many in range(room):
                self.assertEqual(made.letters(), (A,) * many)
                self.assertIs(made.put(A), True)
            self.assertIs(made.put(B), False)
            self.assertEqual(made.letters(), (A,) * room)

    def test_where_none_is_told_there_is_room_for_four(self):
        made = Road()
        self.assertEqual([made.put(A) for _ in range(6)], [True] * 4 + [False] * 2)

    def test_there_is_room_again_behind_what_is_gone(self):
        made = road(A, room=1)
        self.assertIs(made.put(B), False)
        made.bring(0)
        self.assertIs(made.put(B), True)
        made.lose(0)
        self.assertIs(made.put(C), True)
        self.assertEqual(made.letters(), (C,))


class Letters(unittest.TestCase):
    def test_of_none(self):
        self.assertEqual(Road().letters(), ())

    def test_in_order(self):
        made = road(A, B, A, C)
        self.assertEqual(made.letters(), (A, B, A, C))
        self.assertTrue(is_plain(made.letters()))

    def test_each_is_brought_from_its_place(self):
        for i, letter in enumerate((A, B, C, D)):
            made = road(A, B, C, D)
            self.assertEqual(made.bring(i), letter)
            self.assertEqual(made.letters(), (A, B, C, D)[:i] + (A, B, C, D)[i + 1:])

    def test_each_is_lost_from_its_place(self):
        for i in range(4):
            made = road(A, B, C, D)
            self.assertIsNone(made.lose(i))
            self.assertEqual(made.letters(), (A, B, C, D)[:i] + (A, B, C, D)[i + 1:])

    def test_each_is_doubled_as_the_last_one(self):
        for i, letter in enumerate((A, B, C)):
            made = road(A, B, C)
            self.assertIsNone(made.double(i))
            self.assertEqual(made.letters(), (A, B, C, letter))

    def test_of_alike_ones_the_one_at_its_place_goes(self):
        made = road(A, B, A)
        made.bring(2)
        self.assertEqual(made.letters(), (A, B))
        made = road(A, B, A)
        made.lose(0)
        self.assertEqual(made.letters(), (B, A))

    def test_what_was_told_stays(self):
        made = road(A, B)
        told = made.letters()
        made.bring(0)
        made.put(C)
        self.assertEqual(told, (A, B))

    def test_two_are_each_their_own(self):
        one, other = road(A), road()
        one.put(B)
        self.assertEqual((one.letters(), other.letters()), ((A, B), ()))


class Refused(unittest.TestCase):
    def refused(self, made, i, error=NoLetter):
        held = made.letters()
        for asked in (made.bring, made.lose, made.double):
            with self.assertRaises(error) as caught:
                asked(i)
            self.assertIs(caught.exception.i, i)
            self.assertEqual(made.letters(), held)

    def test_what_is_no_place(self):
        for letters in ((), (A,), (A, B), (A, B, C, D)):
            for i in (-1, -len(letters) - 1, len(letters), len(letters) + 1, 10 ** 20, True, False, "0", (0,)):
                self.refused(road(*letters), i)

    def test_things_of_any_kind(self):
        for letters in ((), (A, B, C, D)):
            made = road(*letters)
            for thing in anything():
                self.refused(made, thing)

    def test_a_full_one_doubles_nothing(self):
        for made in (road(A, room=1), road(A, B, C, D)):
            held = made.letters()
            for i in range(len(held)):
                with self.assertRaises(Full):
                    made.double(i)
                self.assertEqual(made.letters(), held)

    def test_at_a_full_one_what_is_no_place_is_named_first(self):
        for made in (road(A, room=1), road(A, B, C, D)):
            for i in (-1, len(made.letters()), True, None):
                self.refused(made, i)

    def test_what_is_handed_in_stays(self):
        letter = ("whole", 0, 0, 0, (((1, "a"),),))
        held = copied(letter)
        made = road(letter)
        made.double(0)
        made.bring(0)
        made.lose(0)
        self.assertEqual(letter, held)


class ByChance(unittest.TestCase):
    def test_against_a_list(self):
        chance = random.Random(17)
        for _ in range(100):
            room = chance.randrange(1, 6)
            made, held = Road(room=room), []
            for _ in range(40):
                self.step(chance, made, held, room)
                self.assertEqual(made.letters(), tuple(held))

    def step(self, chance, made, held, room):
        act, i = chance.choice(("put", "put", "bring", "lose", "double")), chance.randrange(-1, room + 1)
        if act == "put":
            letter = ("have", 0, 0, chance.randrange(9))
            self.assertIs(made.put(letter), len(held) < room)
            held += [letter] if len(held) < room else []
        elif not 0 <= i < len(held):
            self.assertRaises(NoLetter, getattr(made, act), i)
        elif act == "double" and len(held) == room:
            self.assertRaises(Full, made.double, i)
        elif act == "double":
            made.double(i)
            held.append(held[i])
        else:
            self.assertEqual(getattr(made, act)(i), held[i] if act == "bring" else None)
            del held[i]


if __name__ == "__main__":
    unittest.main()
