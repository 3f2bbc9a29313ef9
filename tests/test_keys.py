"""Keys and their lives: points 18 and 19, and point 2 as it holds for them."""

import random
import unittest

from oncedoor.errors import Busy, DoorError, NoAsk
from oncedoor.keys import Keys

MOST = 10 ** 12

ADD = ("add", "ann", 5)
TAKE = ("take", "ann", 3)
MOVE = ("move", "ann", "bo", 2)
IS = ("is", 5)
SHORT = ("short", 0)


class Case(unittest.TestCase):

    def refused(self, refusal, call, *given):
        with self.subTest(given=given):
            with self.assertRaises(DoorError) as caught:
                call(*given)
            self.assertIs(type(caught.exception), refusal)
            return caught.exception

    def kept_keys(self, life=3, turn=5):
        """Keys with one answer kept: number 4, of bo under k1."""
        keys = Keys(life)
        keys.begin("bo", "k1", 4, ADD)
        keys.settle("bo", "k1", turn, IS)
        return keys


class Begun(Case):

    def test_where_nothing_stands(self):
        keys = Keys(3)
        self.assertEqual(keys.look("bo", "k1", 0), ("free",))
        self.assertEqual((keys.kept(0), keys.under()), ([], []))
        self.assertIsNone(keys.begin("bo", "k1", 4, ADD))
        self.assertEqual(keys.look("bo", "k1", 0), ("busy", 4, ADD))
        self.assertEqual((keys.kept(0), keys.under()), ([], [(4, "bo", "k1", ADD)]))

    def test_over_an_answer_that_lives(self):
        keys = self.kept_keys()
        self.assertEqual(keys.look("bo", "k1", 5), ("kept", 4, ADD, IS))
        keys.begin("bo", "k1", 6, TAKE)
        self.assertEqual(keys.look("bo", "k1", 5), ("busy", 6, TAKE))
        self.assertEqual((keys.kept(5), keys.under()), ([], [(6, "bo", "k1", TAKE)]))
        keys.drop("bo", "k1")
        self.assertEqual(keys.look("bo", "k1", 5), ("free",))
        self.assertEqual((keys.kept(5), keys.under()), ([], []))

    def test_over_an_answer_that_lives_no_more(self):
        keys = self.kept_keys()
        self.assertEqual(keys.look("bo", "k1", 8), ("free",))
        keys.begin("bo", "k1", 6, TAKE)
        keys.drop("bo", "k1")
        self.assertEqual(keys.look("bo", "k1", 8), ("free",))
        # Forgotten is forgotten, also where the look goes back to a turn at which it lived.
        self.assertEqual(keys.look("bo", "k1", 5), ("free",))
        self.assertEqual(keys.kept(5), [])

    def test_the_same_deed_over_its_own_answer(self):
        keys = self.kept_keys()
        keys.begin("bo", "k1", 6, ADD)
        self.assertEqual(keys.look("bo", "k1", 5), ("busy", 6, ADD))
        keys.settle("bo", "k1", 6, SHORT)
        self.assertEqual(keys.look("bo", "k1", 6), ("kept", 6, ADD, SHORT))
        self.assertEqual(keys.kept(6), [(6, 6, "bo", "k1", ADD, SHORT)])

    def test_busy(self):
        keys = Keys(3)
        keys.begin("bo", "k1", 4, ADD)
        for number, deed in ((4, ADD), (5, ADD), (5, TAKE), (1, MOVE)):
            refusal = self.refused(Busy, keys.begin, "bo", "k1", number, deed)
            self.assertEqual(refusal.number, 4)
            self.assertIs(type(refusal.number), int)
            self.assertEqual(keys.look("bo", "k1", 0), ("busy", 4, ADD))
            self.assertEqual((keys.kept(0), keys.under()), ([], [(4, "bo", "k1", ADD)]))
        keys.settle("bo", "k1", 0, IS)
        self.assertEqual(keys.kept(0), [(4, 0, "bo", "k1", ADD, IS)])

    def test_busy_of_the_number_under_way_and_not_of_one_before(self):
        keys = self.kept_keys()
        keys.begin("bo", "k1", 9, TAKE)
        self.assertEqual(self.refused(Busy, keys.begin, "bo", "k1", 12, ADD).number, 9)
        keys.drop("bo", "k1")
        keys.begin("bo", "k1", 2, TAKE)
        self.assertEqual(self.refused(Busy, keys.begin, "bo", "k1", 12, ADD).number, 2)

    def test_others_are_not_busy(self):
        keys = Keys(3)
        keys.begin("bo", "k1", 4, ADD)
        keys.begin("bo", "k2", 5, ADD)
        keys.begin("ann", "k1", 6, ADD)
        self.assertEqual(
            keys.under(), [(4, "bo", "k1", ADD), (5, "bo", "k2", ADD), (6, "ann", "k1", ADD)],
        )


class Ended(Case):

    def test_drop(self):
        keys = Keys(3)
        keys.begin("bo", "k1", 4, ADD)
        self.assertIsNone(keys.drop("bo", "k1"))
        for turn in (0, 3, MOST):
            self.assertEqual(keys.look("bo", "k1", turn), ("free",))
            self.assertEqual(keys.kept(turn), [])
        self.assertEqual(keys.under(), [])
        keys.begin("bo", "k1", 5, TAKE)
        self.assertEqual(keys.look("bo", "k1", 0), ("busy", 5, TAKE))

    def test_settle(self):
        keys = Keys(3)
        keys.begin("bo", "k1", 4, ADD)
        self.assertIsNone(keys.settle("bo", "k1", 7, IS))
        self.assertEqual(keys.look("bo", "k1", 7), ("kept", 4, ADD, IS))
        self.assertEqual((keys.kept(7), keys.under()), ([(4, 7, "bo", "k1", ADD, IS)], []))

    def test_no_ask_where_nothing_stands(self):
        keys = Keys(3)
        self.refused(NoAsk, keys.drop, "bo", "k1")
        self.refused(NoAsk, keys.settle, "bo", "k1", 5, IS)
        self.assertEqual((keys.look("bo", "k1", 5), keys.kept(5), keys.under()), (("free",), [], []))

    def test_no_ask_where_an_answer_is_kept(self):
        for turn in (5, 7, 8, 100):
            keys = self.kept_keys()
            self.refused(NoAsk, keys.drop, "bo", "k1")
            self.refused(NoAsk, keys.settle, "bo", "k1", turn, SHORT)
            self.assertEqual(keys.look("bo", "k1", 5), ("kept", 4, ADD, IS))
            self.assertEqual(keys.kept(7), [(4, 5, "bo", "k1", ADD, IS)])
            self.assertEqual(keys.kept(8), [])

    def test_no_ask_where_it_was_dropped(self):
        keys = Keys(3)
        keys.begin("bo", "k1", 4, ADD)
        keys.drop("bo", "k1")
        self.refused(NoAsk, keys.drop, "bo", "k1")
        self.refused(NoAsk, keys.settle, "bo", "k1", 5, IS)
        self.assertEqual((keys.kept(5), keys.under()), ([], []))

    def test_no_ask_where_another_is_under_way(self):
        keys = Keys(3)
        keys.begin("bo", "k1", 4, ADD)
        for asker, key in (("bo", "k2"), ("ann", "k1"), ("b", "k1"), ("bo", "k"), ("bo", "k11"), ("bok", "1")):
            self.refused(NoAsk, keys.drop, asker, key)
            self.refused(NoAsk, keys.settle, asker, key, 5, IS)
        self.assertEqual((keys.kept(5), keys.under()), ([], [(4, "bo", "k1", ADD)]))

    def test_one_ended_leaves_the_others(self):
        keys = Keys(3)
        for number, key in ((1, "a"), (2, "b"), (3, "c")):
            keys.begin("bo", key, number, ADD)
        keys.drop("bo", "b")
        keys.settle("bo", "a", 5, IS)
        self.assertEqual(keys.under(), [(3, "bo", "c", ADD)])
        self.assertEqual(keys.kept(5), [(1, 5, "bo", "a", ADD, IS)])


class BeginningsOfOneAnother(Case):

    PAIRS = (("a", "bc"), ("ab", "c"), ("abc", "a"), ("abca", "bc"), ("abcab", "c"), ("a", "b"), ("a", "bcabc"))

    def test_each_stands_by_itself(self):
        keys = Keys(10)
        for number, pair in enumerate(self.PAIRS, start=1):
            self.assertEqual(keys.look(*pair, 0), ("free",))
            keys.begin(*pair, number, ADD)
        for number, pair in enumerate(self.PAIRS, start=1):
            self.assertEqual(keys.look(*pair, 0), ("busy", number, ADD))
            self.assertEqual(self.refused(Busy, keys.begin, *pair, 99, ADD).number, number)
        keys.drop(*self.PAIRS[0])
        keys.settle(*self.PAIRS[2], 1, IS)
        self.assertEqual(keys.look(*self.PAIRS[0], 1), ("free",))
        self.assertEqual(keys.look(*self.PAIRS[1], 1), ("busy", 2, ADD))
        self.assertEqual(keys.look(*self.PAIRS[2], 1), ("kept", 3, ADD, IS))
        self.assertEqual(keys.look(*self.PAIRS[3], 1), ("busy", 4, ADD))

    def test_asker_and_key_change_places(self):
        keys = Keys(10)
        keys.begin("a", "b", 1, ADD)
        self.assertEqual(keys.look("b", "a", 0), ("free",))
        self.refused(NoAsk, keys.drop, "b", "a")


class Looked(Case):

    def test_at_the_edges_of_a_life(self):
        for life in (1, 2, 3, 100, MOST - 1, MOST):
            for since in (0, 1, 5, MOST - 1, MOST):
                keys = self.kept_keys(life, since)
                for turn in {0, 1, since, since + 1, since + life - 1, since + life, since + life + 1, MOST}:
                    with self.subTest(life=life, since=since, turn=turn):
                        alive = turn < since + life
                        told = ("kept", 4, ADD, IS) if alive else ("free",)
                        self.assertEqual(keys.look("bo", "k1", turn), told)
                        self.assertEqual(keys.kept(turn), [(4, since, "bo", "k1", ADD, IS)] if alive else [])

    def test_the_document_s_own_case(self):
        keys = self.kept_keys(3, 5)
        told = [keys.look("bo", "k1", turn)[0] for turn in range(5, 10)]
        self.assertEqual(told, ["kept", "kept", "kept", "free", "free"])

    def test_a_life_of_one(self):
        keys = self.kept_keys(1, 0)
        self.assertEqual(keys.look("bo", "k1", 0), ("kept", 4, ADD, IS))
        self.assertEqual(keys.look("bo", "k1", 1), ("free",))

    def test_busy_at_each_turn(self):
        keys = Keys(1)
        keys.begin("bo", "k1", 4, ADD)
        for turn in (0, 1, 2, MOST, 0):
            self.assertEqual(keys.look("bo", "k1", turn), ("busy", 4, ADD))

    def test_looking_changes_nothing(self):
        keys = self.kept_keys(3, 5)
        for turn in (8, 5, 100, 7, 0, MOST, 6, 8, 7):
            alive = turn < 8
            self.assertEqual(keys.look("bo", "k1", turn), ("kept", 4, ADD, IS) if alive else ("free",))
            self.assertEqual(len(keys.kept(turn)), 1 if alive else 0)
            self.assertEqual(keys.look("ann", "k1", turn), ("free",))
            self.assertEqual(keys.under(), [])

    def test_an_answer_lives_from_its_own_turn(self):
        keys = Keys(3)
        for number, turn in ((1, 5), (2, 6), (3, 4)):
            keys.begin("bo", f"k{number}", number, ADD)
            keys.settle("bo", f"k{number}", turn, IS)
        self.assertEqual([told[0] for told in keys.kept(6)], [1, 2, 3])
        self.assertEqual([told[0] for told in keys.kept(7)], [1, 2])
        self.assertEqual([told[0] for told in keys.kept(8)], [2])
        self.assertEqual([told[0] for told in keys.kept(9)], [])

    def test_each_kind_of_answer_comes_back_as_it_is(self):
        deeds = {
            ("is", 0, 5): MOVE, ("no", "inn"): ("pass", "mill", "inn", "ann", 1), ("ok",): ("pass", "mill", "inn", "ann", 1),
            ("full", MOST): ADD,
        }
        keys = Keys(3)
        for number, answer in enumerate(deeds, start=1):
            keys.begin("bo", f"k{number}", number, deeds[answer])
            keys.settle("bo", f"k{number}", 0, answer)
            self.assertEqual(keys.look("bo", f"k{number}", 0), ("kept", number, deeds[answer], answer))


class Listed(Case):

    NUMBERS = (7, 100, 3, 20, 1, 999999, 12)

    def test_by_numbers(self):
        keys = Keys(5)
        for number in self.NUMBERS:
            keys.begin("bo", f"k{number}", number, ADD)
        self.assertEqual(keys.under(), [(number, "bo", f"k{number}", ADD) for number in sorted(self.NUMBERS)])
        for turn, number in enumerate(reversed(self.NUMBERS)):
            keys.settle("bo", f"k{number}", turn, IS)
        turns = {number: turn for turn, number in enumerate(reversed(self.NUMBERS))}
        self.assertEqual(
            keys.kept(0), [(number, turns[number], "bo", f"k{number}", ADD, IS) for number in sorted(self.NUMBERS)],
        )
        self.assertEqual(
            [told[0] for told in keys.kept(6)], sorted(number for number in self.NUMBERS if turns[number] + 5 > 6),
        )
        self.assertEqual(keys.under(), [])

    def test_kinds(self):
        keys = Keys(5)
        keys.begin("bo", "k1", 1, ADD)
        keys.begin("bo", "k2", 2, ADD)
        keys.settle("bo", "k2", 0, IS)
        for told in (keys.kept(0), keys.under()):
            self.assertIs(type(told), list)
            self.assertIs(type(told[0]), tuple)
        for key in ("k1", "k2", "k3"):
            self.assertIs(type(keys.look("bo", key, 0)), tuple)

    def test_told_lists_are_the_asker_s_own(self):
        keys = Keys(5)
        keys.begin("bo", "k1", 1, ADD)
        keys.begin("bo", "k2", 2, ADD)
        keys.settle("bo", "k2", 0, IS)
        kept, under = keys.kept(0), keys.under()
        keys.begin("bo", "k3", 3, ADD)
        keys.begin("bo", "k2", 4, ADD)
        self.assertEqual((kept, under), ([(2, 0, "bo", "k2", ADD, IS)], [(1, "bo", "k1", ADD)]))
        keys.drop("bo", "k2")
        keys.begin("bo", "k2", 5, ADD)
        keys.settle("bo", "k2", 0, IS)
        for told in (keys.kept(0), keys.under()):
            told.clear()
        keys.kept(0).append("x")
        keys.under().append("x")
        self.assertEqual(keys.kept(0), [(5, 0, "bo", "k2", ADD, IS)])
        self.assertEqual(keys.under(), [(1, "bo", "k1", ADD), (3, "bo", "k3", ADD)])

    def test_two_side_by_side(self):
        one, other = Keys(3), Keys(5)
        one.begin("bo", "k1", 1, ADD)
        self.assertEqual((other.look("bo", "k1", 0), other.under()), (("free",), []))
        other.begin("bo", "k1", 2, TAKE)
        one.settle("bo", "k1", 0, IS)
        self.assertEqual(other.look("bo", "k1", 0), ("busy", 2, TAKE))
        other.settle("bo", "k1", 0, SHORT)
        self.assertEqual((one.kept(3), other.kept(3)), ([], [(2, 0, "bo", "k1", TAKE, SHORT)]))


class Drawn(Case):

    def test_beside_a_plain_list(self):
        """Each pair's last event is kept in a list, and all is told from that list anew."""
        draw = random.Random(18)
        for life in (1, 2, 5, 30):
            keys, events = Keys(life), []
            for number in range(1, 400):
                asker, key = draw.choice(("a", "ab", "abc")), draw.choice(("b", "bc", "c", "1"))
                last = ([event for event in events if event[1:3] == (asker, key)] or [("gone",)])[-1]
                turn, deed = draw.randrange(60), draw.choice((ADD, TAKE, MOVE))
                what = draw.choice(("begin", "begin", "drop", "settle", "settle"))
                if what == "begin":
                    if last[0] == "begin":
                        self.assertEqual(self.refused(Busy, keys.begin, asker, key, number, deed).number, last[3])
                    else:
                        keys.begin(asker, key, number, deed)
                        events.append(("begin", asker, key, number, deed))
                elif last[0] != "begin":
                    given = (asker, key) if what == "drop" else (asker, key, turn, IS)
                    self.refused(NoAsk, getattr(keys, what), *given)
                elif what == "drop":
                    keys.drop(asker, key)
                    events.append(("drop", asker, key))
                else:
                    keys.settle(asker, key, turn, IS)
                    events.append(("settle", asker, key, last[3], last[4], turn))
                self.told(keys, events, life, draw.randrange(90))

    def told(self, keys, events, life, turn):
        last = {event[1:3]: event for event in events}
        kept, under = [], []
        for (asker, key), event in last.items():
            seen = ("free",)
            if event[0] == "begin":
                under.append((event[3], asker, key, event[4]))
                seen = ("busy", event[3], event[4])
            elif event[0] == "settle" and event[5] + life > turn:
                kept.append((event[3], event[5], asker, key, event[4], IS))
                seen = ("kept", event[3], event[4], IS)
            self.assertEqual(keys.look(asker, key, turn), seen)
        self.assertEqual(keys.kept(turn), sorted(kept))
        self.assertEqual(keys.under(), sorted(under))


if __name__ == "__main__":
    unittest.main()
