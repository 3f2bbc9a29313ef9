"""Looks: points 30, 31 and 32, and point 2 as it holds for them."""

import random
import unittest

from oncedoor.deeds import asks_of
from oncedoor.doors import Door
from oncedoor.errors import DoorError, NoRows
from oncedoor.houses import House
from oncedoor.looks import first_unlike, first_wrong, too_near
from oncedoor.risings import first_odd

MOST = 10 ** 12

ADD = ("add", "ann", 5)
TAKE = ("take", "ann", 5)
MOVE = ("move", "ann", "bo", 5)
SEND = ("send", "mill", "ann", 5)
FETCH = ("fetch", "mill", "ann", 5)
PASS = ("pass", "mill", "inn", "ann", 5)


def came(number, turn, deed, asker="cy", key=None):
    return ("came", number, turn, asker, key or f"k{number}", deed)


def deed_rows(number, deed, answer, turn=0):
    """The rows of a deed that is done with this answer."""
    asked = [("asked", number)] if asks_of(deed) and answer[0] not in ("short", "full") else []
    return [came(number, turn, deed)] + asked + [("done", number, turn, answer)]


class FirstWrong(unittest.TestCase):

    def rows(self, ann, bo, deed, answer):
        """Rows of a book with these amounts, and a deed that is done."""
        has = [("has", name, amount) for name, amount in (("ann", ann), ("bo", bo)) if amount > 0]
        rows = [("next", 1, 0)] + has + deed_rows(1, deed, answer)
        self.assertIsNone(first_odd(rows))
        return rows

    def right(self, ann, bo, deed, *answers):
        for answer in answers:
            with self.subTest(ann=ann, bo=bo, deed=deed, answer=answer):
                self.assertIsNone(first_wrong(self.rows(ann, bo, deed, answer)))

    def wrong(self, ann, bo, deed, *answers):
        for answer in answers:
            with self.subTest(ann=ann, bo=bo, deed=deed, answer=answer):
                rows = self.rows(ann, bo, deed, answer)
                told = first_wrong(rows)
                self.assertEqual(told, len(rows) - 1)
                self.assertIs(type(told), int)

    def test_add(self):
        self.right(7, 0, ADD, ("is", 12))
        self.wrong(7, 0, ADD, ("is", 11), ("is", 13), ("is", 7), ("full", MOST), ("full", MOST - 4))
        self.right(0, 0, ADD, ("is", 5))
        self.wrong(0, 0, ADD, ("is", 6), ("full", MOST))
        self.right(MOST - 5, 0, ADD, ("is", MOST))
        self.wrong(MOST - 5, 0, ADD, ("full", MOST - 4), ("is", MOST - 1))
        self.right(MOST - 4, 0, ADD, ("full", MOST - 4))
        self.wrong(MOST - 4, 0, ADD, ("full", MOST - 3), ("is", MOST), ("is", MOST - 4))
        self.right(MOST, 0, ADD, ("full", MOST))
        self.wrong(MOST, 0, ADD, ("full", MOST - 1), ("is", MOST))

    def test_take(self):
        self.right(7, 0, TAKE, ("is", 2))
        self.wrong(7, 0, TAKE, ("is", 1), ("is", 3), ("is", 7), ("short", 4), ("short", 2))
        self.right(5, 0, TAKE, ("is", 0))
        self.wrong(5, 0, TAKE, ("is", 1), ("short", 4))
        self.right(4, 0, TAKE, ("short", 4))
        self.wrong(4, 0, TAKE, ("short", 3), ("is", 0), ("is", 4))
        self.right(0, 0, TAKE, ("short", 0))
        self.wrong(0, 0, TAKE, ("short", 1), ("is", 0))

    def test_move(self):
        self.right(7, 3, MOVE, ("is", 2, 8))
        self.wrong(7, 3, MOVE, ("is", 1, 8), ("is", 3, 8), ("is", 2, 7), ("is", 2, 9), ("is", 8, 8), ("short", 4), ("full", MOST))
        self.right(4, 3, MOVE, ("short", 4))
        self.wrong(4, 3, MOVE, ("short", 3), ("is", 0, 8), ("full", MOST))
        self.right(5, MOST - 5, MOVE, ("is", 0, MOST))
        self.wrong(5, MOST - 5, MOVE, ("full", MOST - 4))
        self.right(5, MOST - 4, MOVE, ("full", MOST - 4))
        self.wrong(5, MOST - 4, MOVE, ("full", MOST - 3), ("is", 0, MOST), ("short", 4))
        # Short goes ahead of full.
        self.right(4, MOST, MOVE, ("short", 4))
        self.wrong(4, MOST, MOVE, ("full", MOST))

    def test_send(self):
        self.right(7, 0, SEND, ("is", 2), ("no", "mill"))
        self.wrong(7, 0, SEND, ("is", 1), ("is", 3), ("is", 7), ("short", 4))
        self.right(5, 0, SEND, ("is", 0), ("no", "mill"))
        self.wrong(5, 0, SEND, ("is", 1), ("short", 4))
        self.right(4, 0, SEND, ("short", 4))
        self.wrong(4, 0, SEND, ("no", "mill"), ("is", 0), ("short", 3))

    def test_fetch(self):
        self.right(7, 0, FETCH, ("is", 12), ("no", "mill"))
        self.wrong(7, 0, FETCH, ("is", 11), ("is", 13), ("is", 7), ("full", MOST))
        self.right(MOST - 5, 0, FETCH, ("is", MOST), ("no", "mill"))
        self.wrong(MOST - 5, 0, FETCH, ("full", MOST - 4), ("is", MOST - 1))
        self.right(MOST - 4, 0, FETCH, ("full", MOST - 4))
        self.wrong(MOST - 4, 0, FETCH, ("no", "mill"), ("is", MOST), ("full", MOST - 3))

    def test_pass(self):
        self.right(0, 0, PASS, ("ok",), ("no", "mill"), ("no", "inn"))
        self.right(MOST, MOST, PASS, ("ok",), ("no", "mill"), ("no", "inn"))

    def test_the_book_goes_on_with_the_rows(self):
        steps = (
            (ADD, ("is", 5)), (ADD, ("is", 10)), (TAKE, ("is", 5)), (MOVE, ("is", 0, 5)), (MOVE, ("short", 0)),
            (FETCH, ("is", 5)), (FETCH, ("no", "mill")), (SEND, ("no", "mill")), (SEND, ("is", 0)), (SEND, ("short", 0)),
            (PASS, ("ok",)), (PASS, ("no", "inn")), (("move", "bo", "ann", 2), ("is", 3, 2)), (TAKE, ("short", 2)),
        )
        rows = []
        for number, (deed, answer) in enumerate(steps, start=1):
            rows += deed_rows(number, deed, answer)
            self.assertIsNone(first_wrong(rows))
        for place, row in enumerate(rows):
            if row[0] == "done" and row[3][0] in ("is", "short"):
                other = row[3][:1] + (row[3][1] + 1,) + row[3][2:]
                bad = rows[:place] + [row[:3] + (other,)] + rows[place + 1:]
                with self.subTest(row=row):
                    if first_odd(bad) is None:
                        self.assertEqual(first_wrong(bad), place)

    def test_the_order_of_done_rows_counts(self):
        rows = [came(1, 0, ADD), came(2, 0, TAKE), ("done", 1, 0, ("is", 5)), ("done", 2, 0, ("is", 0))]
        self.assertIsNone(first_wrong(rows))
        self.assertEqual(first_wrong(rows[:2] + [rows[3], rows[2]]), 2)
        rows = [came(1, 0, ADD), came(2, 0, TAKE), ("done", 2, 0, ("short", 0)), ("done", 1, 0, ("is", 5))]
        self.assertIsNone(first_wrong(rows))

    def test_the_first_of_several(self):
        rows = [came(1, 0, ADD), ("done", 1, 0, ("is", 6)), came(2, 0, ADD), ("done", 2, 0, ("is", 77))]
        self.assertEqual(first_wrong(rows), 1)

    def test_rows_without_done_ones(self):
        self.assertIsNone(first_wrong([]))
        self.assertIsNone(first_wrong([("next", 4, 2), ("has", "ann", 5)]))
        self.assertIsNone(first_wrong([came(1, 0, ADD), came(2, 0, SEND), ("asked", 2)]))
        # What kept rows tell is of no book that is here.
        self.assertIsNone(first_wrong([("next", 4, 2), ("kept", 2, 1, "cy", "k", ADD, ("is", 77))]))

    def test_no_rows(self):
        for place, rows in (
            (0, [("has", "ann", 5)]), (1, [("next", 1, 0), ("next", 1, 0)]), (0, [("asked", 1)]),
            (1, [came(1, 0, ADD), ("asked", 1)]), (2, [came(1, 0, ADD), ("done", 1, 0, ("is", 77)), came(1, 0, ADD)]),
            (1, [came(1, 0, SEND), ("done", 1, 0, ("is", 0))]), (1, [came(1, 0, ADD), ("done", 1, 0, ("short", 0))]),
        ):
            with self.subTest(rows=rows):
                with self.assertRaises(DoorError) as caught:
                    first_wrong(rows)
                self.assertIs(type(caught.exception), NoRows)
                self.assertEqual(caught.exception.row, place)
                self.assertEqual(first_odd(rows), place)

    def test_the_rows_stay(self):
        rows = self.rows(7, 3, MOVE, ("is", 2, 8))
        copy = list(rows)
        first_wrong(rows)
        too_near(rows, 3)
        self.assertEqual(rows, copy)


class TooNear(unittest.TestCase):

    def test_about_the_life(self):
        for life in (1, 2, 10, MOST):
            for turn in (life - 1, life, life + 1):
                rows = [
                    came(1, 0, ADD, "cy", "k"), ("done", 1, 0, ("is", 5)),
                    came(2, turn, ADD, "cy", "k"), ("done", 2, turn, ("is", 10)),
                ]
                with self.subTest(life=life, turn=turn):
                    told = too_near(rows, life)
                    self.assertEqual(told, (1, 3) if turn < life else None)

    def test_the_turns_of_done_rows_count(self):
        rows = [
            came(1, 0, ADD, "cy", "k"), ("done", 1, 5, ("is", 5)), came(2, 6, ADD, "cy", "k"), ("done", 2, 10, ("is", 10)),
        ]
        self.assertIsNone(too_near(rows, 5))
        self.assertEqual(too_near(rows, 6), (1, 3))

    def test_other_askers_and_keys(self):
        pairs = (("cy", "k"), ("cy", "l"), ("dan", "k"), ("c", "yk"), ("cyk", "k"))
        rows = []
        for number, pair in enumerate(pairs, start=1):
            rows += [came(number, 0, ADD, *pair), ("done", number, 0, ("is", 5))]
        self.assertIsNone(too_near(rows, MOST))
        rows += [came(6, 0, TAKE, "dan", "k"), ("done", 6, 0, ("is", 0))]
        self.assertEqual(too_near(rows, 1), (5, 11))

    def test_came_rows_alone_are_none(self):
        rows = [came(number, 0, SEND, "cy", "k") for number in range(1, 5)] + [("asked", 2), ("asked", 3)]
        self.assertIsNone(too_near(rows, MOST))
        self.assertIsNone(too_near([], 5))
        self.assertIsNone(too_near([("next", 1, 0), ("has", "ann", 5)], 5))

    def test_kept_rows(self):
        rows = [
            ("next", 9, 20), ("has", "ann", 5), ("kept", 2, 10, "cy", "k", ADD, ("is", 5)),
            ("kept", 5, 14, "cy", "k", ADD, ("is", 5)),
        ]
        self.assertIsNone(too_near(rows, 4))
        self.assertEqual(too_near(rows, 5), (2, 3))

    def test_kept_and_done_rows(self):
        rows = [
            ("next", 9, 20), ("kept", 2, 16, "cy", "k", ADD, ("is", 5)), came(9, 20, TAKE, "cy", "k"),
            ("done", 9, 21, ("short", 0)),
        ]
        self.assertIsNone(too_near(rows, 5))
        self.assertEqual(too_near(rows, 6), (1, 3))

    def test_kept_rows_whose_turns_fall(self):
        rows = [
            ("next", 9, 20), ("kept", 2, 16, "cy", "k", ADD, ("is", 5)), ("kept", 3, 4, "cy", "k", ADD, ("is", 5)),
        ]
        self.assertEqual(too_near(rows, 1), (1, 2))

    def test_the_least_j(self):
        rows = [
            came(1, 0, ADD, "cy", "k"), came(2, 0, ADD, "cy", "l"), ("done", 1, 0, ("is", 5)), ("done", 2, 0, ("is", 10)),
            came(3, 0, TAKE, "cy", "l"), came(4, 0, TAKE, "cy", "k"), ("done", 3, 0, ("is", 5)), ("done", 4, 0, ("is", 0)),
        ]
        self.assertEqual(too_near(rows, 1), (3, 6))

    def test_the_greatest_i(self):
        kept = [("kept", number, turn, "cy", "k", ADD, ("is", 5)) for number, turn in ((1, 1), (2, 20), (3, 0))]
        rows = [("next", 9, 30)] + kept
        # The third is near to both ahead, which are apart from one another.
        self.assertEqual(too_near(rows, 10), (2, 3))
        self.assertEqual(too_near(rows, 19), (2, 3))
        self.assertEqual(too_near(rows, 20), (1, 2))
        self.assertEqual(too_near([rows[0], rows[1], rows[3]], 10), (1, 2))

    def test_the_last_one_ahead(self):
        rows = [("next", 9, 30), ("kept", 1, 18, "cy", "k", ADD, ("is", 5)), ("kept", 2, 30, "dan", "k", ADD, ("is", 5))]
        rows += [came(9, 30, ADD, "cy", "k"), ("done", 9, 30, ("is", 5))]
        self.assertIsNone(too_near(rows, 12))
        rows += [came(10, 33, ADD, "cy", "k"), ("done", 10, 33, ("is", 10))]
        self.assertEqual(too_near(rows, 12), (4, 6))
        self.assertEqual(too_near(rows, 4), (4, 6))
        self.assertIsNone(too_near(rows, 3))

    def test_drawn_rows(self):
        draw = random.Random(31)
        found = 0
        for count in range(1500):
            rows, number = [("next", 50, 20)], 1
            for step in range(draw.randrange(5)):
                rows.append(("kept", number, draw.randrange(21), "cy", draw.choice("kl"), ADD, ("is", 5)))
                number += 1
            turn = 20
            for step in range(draw.randrange(6)):
                turn += draw.randrange(4)
                rows += [came(50 + step, turn, ADD, "cy", draw.choice("kl")), ("done", 50 + step, turn, ("is", 5))]
            self.assertIsNone(first_odd(rows))
            life = draw.choice((1, 2, 4, 9, 30))
            keys = {row[1]: row[4] for row in rows if row[0] == "came"}
            marks = [
                (place, row[2], row[4] if row[0] == "kept" else keys[row[1]])
                for place, row in enumerate(rows) if row[0] in ("kept", "done")
            ]
            pairs = [
                (two[0], -one[0]) for one in marks for two in marks
                if one[0] < two[0] and one[2] == two[2] and two[1] < one[1] + life
            ]
            told = (-min(pairs)[1], min(pairs)[0]) if pairs else None
            self.assertEqual(too_near(rows, life), told)
            found += told is not None
        self.assertGreater(found, 300)


class FirstUnlike(unittest.TestCase):

    def setUp(self):
        self.mill = House([("ann", 100)])
        self.inn = House([("ann", 100)])
        self.houses = [("mill", self.mill), ("inn", self.inn)]

    def stand(self, house, key, deed, word):
        """Have a word stand under a key at a house."""
        if word is None:
            return
        if word == "no":
            house.close("ann")
            house.ask("drain", ("take", "ann", 100))
        self.assertEqual(house.ask(key, deed), "no" if word == "no" else "yes")
        if word == "undone":
            house.undo(key)

    def looked(self, rows):
        self.assertIsNone(first_odd(rows))
        copy, houses = list(rows), list(self.houses)
        seen = [(house.rows(), house.kept()) for name, house in self.houses]
        told = first_unlike("hall", rows, houses)
        self.assertEqual((rows, houses), (copy, self.houses))
        self.assertEqual([(house.rows(), house.kept()) for name, house in self.houses], seen)
        return told

    def test_one_place(self):
        words = (None, "yes", "no", "undone")
        cases = (
            (SEND, [], (None,)), (SEND, [("asked", 1)], words), (SEND, [("done", 1, 0, ("short", 0))], (None,)),
            (SEND, [("asked", 1), ("done", 1, 0, ("is", 0))], ("yes",)),
            (SEND, [("asked", 1), ("done", 1, 0, ("no", "mill"))], ("no",)),
            (FETCH, [], (None,)), (FETCH, [("asked", 1)], words), (FETCH, [("done", 1, 0, ("full", MOST))], (None,)),
            (FETCH, [("asked", 1), ("done", 1, 0, ("is", 5))], ("yes",)),
            (FETCH, [("asked", 1), ("done", 1, 0, ("no", "mill"))], ("no",)),
        )
        for deed, behind, due in cases:
            for word in words:
                with self.subTest(deed=deed, behind=behind, word=word):
                    self.setUp()
                    self.stand(self.mill, "hall1a", asks_of(deed)[0][1], word)
                    told = self.looked([came(1, 0, deed)] + behind)
                    self.assertEqual(told, None if word in due else (1, 0))

    def test_two_places(self):
        words = (None, "yes", "no", "undone")
        cases = (
            ([], (None,), (None,)), ([("asked", 1)], words, words),
            ([("asked", 1), ("done", 1, 0, ("ok",))], ("yes",), ("yes",)),
            ([("asked", 1), ("done", 1, 0, ("no", "mill"))], ("no",), (None,)),
            ([("asked", 1), ("done", 1, 0, ("no", "inn"))], ("undone",), ("no",)),
        )
        for behind, first, second in cases:
            for one in words:
                for two in words:
                    with self.subTest(behind=behind, one=one, two=two):
                        self.setUp()
                        self.stand(self.mill, "hall1a", ("take", "ann", 5), one)
                        self.stand(self.inn, "hall1b", ("add", "ann", 5), two)
                        told = self.looked([came(1, 0, PASS)] + behind)
                        due = None if two in second else (1, 1)
                        self.assertEqual(told, due if one in first else (1, 0))

    def test_another_deed(self):
        ended = [("asked", 1), ("done", 1, 0, ("is", 0))]
        for deed in (("take", "ann", 5), ("add", "bo", 5), ("add", "ann", 4)):
            for behind in (ended, ended[:1]):
                self.setUp()
                self.mill.ask("hall1a", deed)
                self.assertEqual(self.looked([came(1, 0, SEND)] + behind), (1, 0))

    def test_another_deed_that_is_undone(self):
        rows = [came(1, 0, PASS), ("asked", 1), ("done", 1, 0, ("no", "inn"))]
        self.inn.close("ann")
        self.inn.ask("hall1b", ("add", "ann", 5))
        self.mill.ask("hall1a", ("take", "ann", 6))
        self.mill.undo("hall1a")
        self.assertEqual(self.looked(rows), (1, 0))

    def test_none_as_a_deed(self):
        self.mill.undo("hall1a")
        self.assertEqual(self.looked([came(1, 0, SEND), ("asked", 1)]), (1, 0))
        self.setUp()
        self.mill.undo("hall1a")
        self.inn.close("ann")
        self.inn.ask("hall1b", ("add", "ann", 5))
        rows = [came(1, 0, PASS), ("asked", 1), ("done", 1, 0, ("no", "inn"))]
        self.assertEqual(self.looked(rows), (1, 0))
        self.setUp()
        self.inn.undo("hall1b")
        self.assertEqual(self.looked(rows[:2]), (1, 1))

    def test_by_numbers_then_places(self):
        rows = [came(number, 0, PASS) for number in (2, 9, 10)]
        rows += [("asked", number) for number in (10, 9, 2)]
        rows += [("done", number, 0, ("ok",)) for number in (10, 9, 2)]
        self.assertEqual(self.looked(rows), (2, 0))
        for number, place, house, deed in (
            (2, 0, self.mill, "take"), (2, 1, self.inn, "add"), (9, 0, self.mill, "take"), (9, 1, self.inn, "add"),
            (10, 0, self.mill, "take"), (10, 1, self.inn, "add"),
        ):
            self.assertEqual(self.looked(rows), (number, place))
            house.ask(f"hall{number}{'ab'[place]}", (deed, "ann", 5))
        self.assertIsNone(self.looked(rows))

    def test_keys_of_others_are_none_of_this_door(self):
        for key in ("hal1a", "halls1a", "hall11a", "hall1", "hall1c", "k1"):
            self.mill.ask(key, ("take", "ann", 1))
        self.inn.ask("hall1a", ("take", "ann", 1))
        self.assertIsNone(self.looked([came(1, 0, SEND)]))
        self.assertIsNone(self.looked([]))
        self.assertIsNone(self.looked([came(1, 0, ADD), ("done", 1, 0, ("is", 5))]))

    def test_the_door_s_name_counts(self):
        self.mill.ask("hall1a", ("add", "ann", 5))
        rows = [came(1, 0, SEND), ("asked", 1), ("done", 1, 0, ("is", 0))]
        self.assertIsNone(first_unlike("hall", rows, self.houses))
        self.assertEqual(first_unlike("barn", rows, self.houses), (1, 0))

    def test_each_house_by_its_own_name(self):
        self.inn.ask("hall1a", ("add", "ann", 5))
        rows = [came(1, 0, SEND), ("asked", 1), ("done", 1, 0, ("is", 0))]
        self.assertEqual(self.looked(rows), (1, 0))
        self.assertIsNone(first_unlike("hall", rows, [("inn", self.mill), ("mill", self.inn)]))

    def test_of_a_door_at_any_moment(self):
        draw = random.Random(32)
        for count in range(30):
            self.setUp()
            door = Door("hall", 4, self.houses)
            turn = 0
            for step in range(150):
                self.assertIsNone(first_unlike("hall", door.rows(), self.houses))
                self.assertIsNone(first_wrong(door.rows()))
                self.assertIsNone(too_near(door.rows(), 4))
                what = draw.choice(("come", "work", "work", "work", "force", "fall", "house"))
                under = [entry[0] for entry in door.under()]
                if what == "come" and len(under) < 8:
                    turn += draw.randrange(2)
                    deed = draw.choice((ADD, TAKE, SEND, FETCH, PASS, ("pass", "inn", "mill", "ann", 60)))
                    door.come(turn, "cy", draw.choice("klmnop"), deed)
                elif what == "work" and under:
                    door.work(draw.choice(under), draw.choice(("through", "through", "lost", "unheard")))
                elif what == "force":
                    door.force()
                elif what == "fall" and draw.random() < 0.3:
                    door.fall(draw.choice((0, 3, 30, 60, 1000)))
                    self.assertIsNone(first_unlike("hall", door.rows(), self.houses))
                    door.rise(turn)
                elif what == "house":
                    house = draw.choice((self.mill, self.inn))
                    draw.choice((house.close, house.reopen))("ann")


if __name__ == "__main__":
    unittest.main()
