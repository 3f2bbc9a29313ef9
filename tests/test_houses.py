"""Other houses: points 12, 13 and 14, and point 2 as it holds for them."""

import unittest

from oncedoor.errors import DoorError, NoDeed, NoKey, Other
from oncedoor.houses import House

MOST = 10 ** 12

ADD = ("add", "ann", 5)
TAKE = ("take", "ann", 5)

NO_KEYS = (
    "", " ", "K1", "k 1", " k1", "k1 ", "k1\n", "\nk1", "k-1", "k_1", "abcdefgh12345", "a" * 60000,
    None, True, False, 0, 5, 1.5, b"k1", [], ["k1"], (), ("k1",), {}, {"k1": 1}, {"k1"}, object(), len, str,
)

NO_DEEDS = (
    ("move", "ann", "bo", 5), ("send", "mill", "ann", 5), ("fetch", "mill", "ann", 5), ("pass", "mill", "inn", "ann", 5),
    ("add", "ann", 0), ("add", "ann", -5), ("take", "ann", 0), ("take", "ann", MOST + 1), ("add", "ann", MOST + 1),
    ("add", "ann", True), ("take", "ann", "5"), ("add", "ann", None), ("add", "Ann", 5), ("add", "", 5),
    ("add", "abcdefghi", 5), ("add", None, 5), ("add", ["ann"], 5), ("add", "ann"), ("add", "ann", 5, 5), ("add",),
    ("give", "ann", 5), (["add"], "ann", 5), ({}, "ann", 5), (None, None, None), ["add", "ann", 5], "add ann 5", "add",
    "", (), [], {}, {"add": 5}, {"add"}, None, True, 0, 5, 1.5, b"add", object(), len, tuple,
)


class Case(unittest.TestCase):

    def refused(self, refusal, call, *given):
        with self.subTest(given=given):
            with self.assertRaises(DoorError) as caught:
                call(*given)
            self.assertIs(type(caught.exception), refusal)


class Asked(Case):

    def test_take_at_the_bound(self):
        for n in (1, 5, MOST - 1, MOST):
            for amount in (0, n - 1, n, min(n + 1, MOST), MOST):
                with self.subTest(n=n, amount=amount):
                    house = House([("ann", amount)])
                    self.assertEqual(house.ask("k1", ("take", "ann", n)), "yes" if amount >= n else "no")
                    self.assertEqual(house.amount("ann"), amount - n if amount >= n else amount)

    def test_add_at_the_bound(self):
        for n in (1, 5, MOST - 1, MOST):
            for amount in (0, max(MOST - n - 1, 0), MOST - n, MOST - n + 1, MOST):
                with self.subTest(n=n, amount=amount):
                    house = House([("ann", amount)])
                    done = amount + n <= MOST
                    self.assertEqual(house.ask("k1", ("add", "ann", n)), "yes" if done else "no")
                    self.assertEqual(house.amount("ann"), amount + n if done else amount)

    def test_names_that_were_never_told(self):
        house = House()
        self.assertEqual(house.ask("k1", ("take", "ann", 1)), "no")
        self.assertEqual(house.ask("k2", ("add", "ann", MOST)), "yes")
        self.assertEqual(house.rows(), [("ann", MOST)])

    def test_only_the_name_asked_for_is_changed(self):
        house = House([("ann", 5), ("bo", 7)])
        house.ask("k1", TAKE)
        self.assertEqual(house.rows(), [("bo", 7)])
        house.ask("k2", ("add", "cy", 2))
        self.assertEqual(house.rows(), [("bo", 7), ("cy", 2)])

    def test_a_closed_name_isn_t_added_to(self):
        house = House([("ann", 5), ("bo", 7)], ["ann"])
        self.assertEqual(house.ask("k1", ADD), "no")
        self.assertEqual(house.amount("ann"), 5)
        self.assertEqual(house.ask("k2", ("add", "bo", 5)), "yes")
        self.assertEqual(house.amount("bo"), 12)

    def test_a_closed_name_is_taken_from(self):
        house = House([("ann", 5)], ["ann"])
        self.assertEqual(house.ask("k1", TAKE), "yes")
        self.assertEqual(house.amount("ann"), 0)
        self.assertEqual(house.ask("k2", TAKE), "no")

    def test_the_same_key_with_the_same_deed_does_nothing(self):
        house = House([("ann", 20)])
        self.assertEqual(house.ask("k1", TAKE), "yes")
        self.assertEqual(house.ask("k2", ADD), "yes")
        self.assertEqual(house.ask("k3", TAKE), "yes")
        for time in range(4):
            for key, deed in (("k1", TAKE), ("k2", ADD), ("k3", TAKE)):
                self.assertEqual(house.ask(key, deed), "yes")
                self.assertEqual(house.amount("ann"), 15)
        self.assertEqual(house.kept(), [("k1", TAKE, "yes"), ("k2", ADD, "yes"), ("k3", TAKE, "yes")])

    def test_yes_stays_whatever_came_since(self):
        house = House([("ann", 5)])
        self.assertEqual(house.ask("k1", TAKE), "yes")
        self.assertEqual(house.ask("k2", TAKE), "no")
        self.assertEqual(house.ask("k1", TAKE), "yes")
        self.assertEqual(house.amount("ann"), 0)
        self.assertEqual(house.ask("k3", ADD), "yes")
        house.close("ann")
        self.assertEqual(house.ask("k3", ADD), "yes")
        self.assertEqual(house.amount("ann"), 5)

    def test_no_stays_whatever_came_since(self):
        house = House([("ann", 4)], ["bo"])
        self.assertEqual(house.ask("k1", TAKE), "no")
        self.assertEqual(house.ask("k2", ("add", "bo", 5)), "no")
        self.assertEqual(house.ask("k3", ("add", "ann", 10)), "yes")
        house.reopen("bo")
        self.assertEqual(house.ask("k1", TAKE), "no")
        self.assertEqual(house.ask("k2", ("add", "bo", 5)), "no")
        self.assertEqual(house.rows(), [("ann", 14)])
        self.assertEqual(house.ask("k4", TAKE), "yes")
        self.assertEqual(house.ask("k5", ("add", "bo", 5)), "yes")
        self.assertEqual(house.rows(), [("ann", 9), ("bo", 5)])

    def test_a_deed_made_anew_is_the_same_deed(self):
        house = House([("ann", 20)])
        house.ask("k1", TAKE)
        self.assertEqual(house.ask("k" + str(1), tuple(["take", "a" + "nn", 4 + 1])), "yes")
        self.assertEqual(house.amount("ann"), 15)

    def test_the_longest_and_the_shortest_key(self):
        house = House([("ann", 25)])
        for key in ("abcdefgh1234", "a", "0", "999999999999", "hall12a"):
            self.assertEqual(house.ask(key, TAKE), "yes")
        self.assertEqual(len(house.kept()), 5)
        self.assertEqual(house.rows(), [])


class Refused(Case):

    def setUp(self):
        self.house = House([("ann", 20), ("bo", 3)], ["bo"])
        self.house.ask("k1", TAKE)
        self.house.ask("k2", ("add", "bo", 5))
        self.house.undo("k3")
        self.before = (self.house.rows(), self.house.kept())

    def tearDown(self):
        self.assertEqual((self.house.rows(), self.house.kept()), self.before)

    def test_keys_that_are_none(self):
        for key in NO_KEYS:
            self.refused(NoKey, self.house.ask, key, TAKE)
            self.refused(NoKey, self.house.undo, key)

    def test_deeds_that_are_none_of_these(self):
        for key in ("k1", "k2", "k3", "k4"):
            for deed in NO_DEEDS:
                self.refused(NoDeed, self.house.ask, key, deed)

    def test_another_deed(self):
        others = (ADD, ("take", "ann", 4), ("take", "ann", 6), ("take", "bo", 5), ("take", "an", 5), ("take", "ann", MOST))
        for deed in others:
            self.refused(Other, self.house.ask, "k1", deed)
        for deed in (ADD, TAKE, ("add", "bo", 4), ("take", "bo", 5)):
            self.refused(Other, self.house.ask, "k2", deed)

    def test_their_order(self):
        for key in NO_KEYS:
            for deed in NO_DEEDS[:8] + (None, [], {}):
                self.refused(NoKey, self.house.ask, key, deed)
        self.refused(NoDeed, self.house.ask, "k1", ("take", "ann", 0))
        self.refused(NoDeed, self.house.ask, "k1", ("move", "ann", "bo", 5))

    def test_things_handed_in_stay_as_they_were(self):
        thing = ["take", "ann", 5]
        self.refused(NoDeed, self.house.ask, "k9", thing)
        self.refused(NoKey, self.house.ask, thing, thing)
        self.refused(NoKey, self.house.undo, thing)
        self.assertEqual(thing, ["take", "ann", 5])

    def test_the_first_answer_is_told_behind_a_refusal(self):
        self.refused(Other, self.house.ask, "k1", ADD)
        self.assertEqual(self.house.ask("k1", TAKE), "yes")
        self.refused(Other, self.house.ask, "k2", ADD)
        self.assertEqual(self.house.ask("k2", ("add", "bo", 5)), "no")


class RefusedAhead(Case):

    def test_a_refused_key_is_as_never_asked(self):
        house = House([("ann", 5)])
        self.refused(NoDeed, house.ask, "k1", ("move", "ann", "bo", 5))
        self.assertEqual(house.kept(), [])
        self.assertEqual(house.ask("k1", TAKE), "yes")
        self.assertEqual(house.rows(), [])


class Undone(Case):

    def test_undo_tells_nothing(self):
        house = House([("ann", 5)])
        house.ask("k1", TAKE)
        for key in ("k1", "k1", "k2", "k2"):
            self.assertIsNone(house.undo(key))

    def test_behind_yes(self):
        for deed, amount in ((TAKE, 2), (ADD, 12)):
            house = House([("ann", 7), ("bo", 1)])
            self.assertEqual(house.ask("k1", deed), "yes")
            self.assertEqual(house.amount("ann"), amount)
            house.undo("k1")
            self.assertEqual(house.rows(), [("ann", 7), ("bo", 1)])
            self.assertEqual(house.kept(), [("k1", deed, "undone")])

    def test_behind_no(self):
        for deed in (("take", "ann", 8), ("add", "ann", MOST), ("add", "bo", 1)):
            house = House([("ann", 7)], ["bo"])
            self.assertEqual(house.ask("k1", deed), "no")
            house.undo("k1")
            self.assertEqual(house.rows(), [("ann", 7)])
            self.assertEqual(house.kept(), [("k1", deed, "undone")])
            self.assertEqual(house.ask("k1", deed), "undone")

    def test_ahead_of_any_ask(self):
        house = House([("ann", 7)])
        house.undo("k1")
        self.assertEqual(house.kept(), [("k1", None, "undone")])
        for deed in (TAKE, ADD, ("add", "bo", 1), TAKE):
            self.assertEqual(house.ask("k1", deed), "undone")
            self.assertEqual(house.rows(), [("ann", 7)])
            self.assertEqual(house.kept(), [("k1", None, "undone")])
        house.undo("k1")
        self.assertEqual(house.kept(), [("k1", None, "undone")])

    def test_again(self):
        for deed in (TAKE, ADD):
            house = House([("ann", 7)])
            house.ask("k1", deed)
            for time in range(4):
                house.undo("k1")
                self.assertEqual(house.rows(), [("ann", 7)])
                self.assertEqual(house.ask("k1", deed), "undone")
                self.assertEqual(house.rows(), [("ann", 7)])

    def test_undone_of_any_deed(self):
        house = House([("ann", 7)])
        house.ask("k1", TAKE)
        house.undo("k1")
        for deed in (TAKE, ADD, ("take", "ann", 1), ("add", "bo", MOST), ("take", "bo", 1)):
            self.assertEqual(house.ask("k1", deed), "undone")
        self.assertEqual(house.rows(), [("ann", 7)])
        self.assertEqual(house.kept(), [("k1", TAKE, "undone")])

    def test_no_deed_as_ever(self):
        house = House([("ann", 7)])
        house.ask("k1", TAKE)
        house.undo("k1")
        house.undo("k2")
        for key in ("k1", "k2"):
            for deed in NO_DEEDS:
                self.refused(NoDeed, house.ask, key, deed)
        self.assertEqual(house.kept(), [("k1", TAKE, "undone"), ("k2", None, "undone")])

    def test_other_keys_stay(self):
        house = House([("ann", 20)])
        house.ask("k1", TAKE)
        house.ask("k2", TAKE)
        house.undo("k1")
        self.assertEqual(house.amount("ann"), 15)
        self.assertEqual(house.ask("k2", TAKE), "yes")
        self.refused(Other, house.ask, "k2", ADD)
        self.assertEqual(house.kept(), [("k1", TAKE, "undone"), ("k2", TAKE, "yes")])

    def test_an_amount_below_nought(self):
        house = House()
        house.ask("k1", ADD)
        house.ask("k2", ("take", "ann", 3))
        house.undo("k1")
        self.assertEqual(house.amount("ann"), -3)
        self.assertEqual(house.rows(), [("ann", -3)])
        self.assertEqual(house.ask("k3", ("take", "ann", 1)), "no")
        self.assertEqual(house.ask("k4", ("add", "ann", 3)), "yes")
        self.assertEqual(house.rows(), [])
        house.undo("k4")
        self.assertEqual(house.ask("k5", ("add", "ann", 2)), "yes")
        self.assertEqual(house.amount("ann"), -1)
        self.assertEqual(house.ask("k6", ("add", "ann", MOST)), "yes")
        self.assertEqual(house.amount("ann"), MOST - 1)

    def test_an_amount_above_the_most(self):
        house = House([("ann", MOST)])
        house.ask("k1", TAKE)
        house.ask("k2", ("add", "ann", 3))
        house.undo("k1")
        self.assertEqual(house.rows(), [("ann", MOST + 3)])
        self.assertEqual(house.ask("k3", ("add", "ann", 1)), "no")
        self.assertEqual(house.ask("k4", ("take", "ann", 1)), "yes")
        self.assertEqual(house.amount("ann"), MOST + 2)
        self.assertEqual(house.ask("k5", ("take", "ann", MOST)), "yes")
        self.assertEqual(house.amount("ann"), 2)

    def test_of_a_closed_name(self):
        house = House([("ann", 7)])
        house.ask("k1", TAKE)
        house.close("ann")
        house.undo("k1")
        self.assertEqual(house.amount("ann"), 7)


class ClosedAndTold(Case):

    def added(self, house, name):
        """Whether the house adds to a name, asked under a key that is new there."""
        return house.ask("new" + str(len(house.kept())), ("add", name, 1)) == "yes"

    def test_close_and_reopen(self):
        house = House([("ann", 7)])
        self.assertTrue(self.added(house, "ann"))
        self.assertIsNone(house.close("ann"))
        self.assertFalse(self.added(house, "ann"))
        self.assertTrue(self.added(house, "bo"))
        self.assertIsNone(house.reopen("ann"))
        self.assertTrue(self.added(house, "ann"))
        self.assertEqual(house.rows(), [("ann", 9), ("bo", 1)])

    def test_closed_twice_is_opened_at_once(self):
        house = House()
        house.close("ann")
        house.close("ann")
        house.reopen("ann")
        self.assertTrue(self.added(house, "ann"))

    def test_a_name_that_stands_twice_in_the_list(self):
        house = House(None, ["ann", "bo", "ann"])
        house.reopen("ann")
        self.assertTrue(self.added(house, "ann"))
        self.assertFalse(self.added(house, "bo"))

    def test_opened_twice_or_never_closed(self):
        house = House(closed=["ann"])
        for name in ("ann", "ann", "bo", "bo"):
            self.assertIsNone(house.reopen(name))
            self.assertTrue(self.added(house, name))
        house.close("ann")
        self.assertFalse(self.added(house, "ann"))

    def test_nothing_else_is_changed(self):
        house = House([("ann", 7), ("bo", 2)], ["bo"])
        house.ask("k1", TAKE)
        before = (house.rows(), house.kept())
        for name in ("ann", "bo", "cy"):
            for change in (house.close, house.close, house.reopen, house.reopen):
                change(name)
                self.assertEqual((house.rows(), house.kept()), before)

    def test_an_empty_house(self):
        for house in (House(), House(None, None), House([], []), House(rows=None, closed=None), House(rows=[])):
            self.assertEqual(house.rows(), [])
            self.assertEqual(house.kept(), [])
            self.assertIs(type(house.rows()), list)
            self.assertIs(type(house.kept()), list)
            self.assertEqual(house.amount("ann"), 0)

    def test_rows_by_names_of_those_that_are_not_nought(self):
        house = House([("bo", 3), ("cy", 0), ("b", 1), ("ann", 5), ("boa", MOST), ("a", 0)])
        self.assertEqual(house.rows(), [("ann", 5), ("b", 1), ("bo", 3), ("boa", MOST)])
        house.ask("k1", ("take", "bo", 3))
        self.assertEqual(house.rows(), [("ann", 5), ("b", 1), ("boa", MOST)])
        self.assertEqual([house.amount(name) for name in ("ann", "b", "bo", "cy", "zed")], [5, 1, 0, 0, 0])

    def test_asking_for_an_amount_changes_nothing(self):
        house = House()
        house.amount("ann")
        self.assertEqual(house.rows(), [])

    def test_kept_by_the_order_of_texts(self):
        house = House([("ann", 7)])
        keys = ["k2", "k10", "b", "9", "k1", "10", "a", "ka", "0"]
        for key in keys:
            house.ask(key, TAKE)
        house.undo("k0")
        house.undo("k2")
        words = {"k2": "undone", "k0": "undone"}
        due = [(key, None if key == "k0" else TAKE, words.get(key, "no")) for key in sorted(keys + ["k0"])]
        self.assertEqual(house.kept(), due)
        self.assertEqual([key for key, deed, word in due], ["0", "10", "9", "a", "b", "k0", "k1", "k10", "k2", "ka"])

    def test_told_things_are_tuples(self):
        house = House([("ann", 7)])
        house.ask("k1", TAKE)
        for told in house.rows() + house.kept():
            self.assertIs(type(told), tuple)

    def test_lists_handed_in_are_copied(self):
        pairs, closed = [("ann", 7)], ["bo"]
        house = House(pairs, closed)
        house.ask("k1", TAKE)
        house.close("cy")
        house.reopen("bo")
        self.assertEqual(pairs, [("ann", 7)])
        self.assertEqual(closed, ["bo"])
        house.close("bo")
        pairs.append(("dee", 9))
        pairs[0] = ("ann", 100)
        closed[0] = "ann"
        closed.append("dee")
        self.assertEqual(house.rows(), [("ann", 2)])
        self.assertTrue(self.added(house, "ann"))
        self.assertTrue(self.added(house, "dee"))
        self.assertFalse(self.added(house, "bo"))

    def test_told_lists_are_the_asker_s_own(self):
        house = House([("ann", 7)])
        house.ask("k1", TAKE)
        rows, kept = house.rows(), house.kept()
        house.ask("k2", ADD)
        house.undo("k1")
        self.assertEqual(rows, [("ann", 2)])
        self.assertEqual(kept, [("k1", TAKE, "yes")])
        rows.append(("bo", 1))
        kept.clear()
        house.rows().clear()
        house.kept().clear()
        self.assertEqual(house.rows(), [("ann", 12)])
        self.assertEqual(house.kept(), [("k1", TAKE, "undone"), ("k2", ADD, "yes")])
        self.assertEqual(house.amount("bo"), 0)

    def test_two_houses_side_by_side(self):
        pairs, closed = [("ann", 7)], ["bo"]
        for one, other in ((House(pairs, closed), House(pairs, closed)), (House([("ann", 7)]), House([("ann", 7)]))):
            one.ask("k1", TAKE)
            one.undo("k2")
            one.close("ann")
            self.assertEqual(other.rows(), [("ann", 7)])
            self.assertEqual(other.kept(), [])
            self.assertEqual(other.ask("k1", ADD), "yes")
            self.assertEqual(other.ask("k2", ADD), "yes")
            self.assertEqual(one.rows(), [("ann", 2)])
            self.assertEqual(one.kept(), [("k1", TAKE, "yes"), ("k2", None, "undone")])

    def test_a_house_made_of_another_s_rows(self):
        one = House([("ann", 5)])
        one.ask("k1", TAKE)
        one.ask("k2", ADD)
        one.undo("k2")
        one.ask("k3", ("add", "bo", 3))
        one.ask("k4", ("take", "bo", 2))
        one.undo("k3")
        other = House(one.rows())
        self.assertEqual(other.rows(), one.rows())
        self.assertEqual(other.amount("bo"), -2)
        self.assertEqual(other.kept(), [])


if __name__ == "__main__":
    unittest.main()
