"""What rows tell: points 20 and 21, and point 2 as it holds for them."""

import random
import unittest

from oncedoor.answers import is_answer
from oncedoor.deeds import asks_of
from oncedoor.errors import DoorError, NoChange
from oncedoor.risings import first_odd, risen
from oncedoor.rows import is_row

MOST = 10 ** 12

ADD = ("add", "ann", 5)
TAKE = ("take", "bo", 3)
MOVE = ("move", "ann", "bo", 2)
SEND = ("send", "mill", "ann", 4)
FETCH = ("fetch", "mill", "bo", 4)
PASS = ("pass", "mill", "inn", "ann", 4)
DEEDS = (ADD, TAKE, MOVE, SEND, FETCH, PASS)

NEXT = ("next", 10, 20)
HAS_ANN = ("has", "ann", 7)
HAS_BO = ("has", "bo", 8)
KEPT_2 = ("kept", 2, 18, "cy", "k2", ADD, ("is", 5))
KEPT_4 = ("kept", 4, 17, "cy", "k4", PASS, ("ok",))


def came(number, turn, deed, asker="cy", key=None):
    return ("came", number, turn, asker, key or f"k{number}", deed)


# A whole list with each kind of row, each way for a deed to have ended, and deeds that haven't.
WHOLE = [
    NEXT, HAS_ANN, HAS_BO, KEPT_2, KEPT_4,
    came(6, 20, SEND), came(10, 20, ADD), ("asked", 6), came(11, 22, MOVE), ("done", 10, 22, ("is", 12)),
    came(12, 22, FETCH), ("done", 11, 23, ("short", 1)), ("asked", 12), ("done", 6, 23, ("is", 8)), came(14, 24, PASS),
    ("asked", 14), came(15, 25, PASS), ("asked", 15), ("done", 14, 25, ("no", "inn")), came(16, 26, TAKE),
    came(17, 26, SEND), ("done", 17, 27, ("short", 0)), came(18, 27, FETCH), ("done", 18, 30, ("full", MOST)),
]


class Whole(unittest.TestCase):

    def whole(self, *rows):
        with self.subTest(rows=rows):
            self.assertTrue(all(is_row(row) for row in rows))
            self.assertIsNone(first_odd(list(rows)))

    def odd(self, place, *rows):
        """The row at this place is the first one up to which the rows aren't whole."""
        with self.subTest(rows=rows):
            self.assertTrue(all(is_row(row) for row in rows))
            told = first_odd(list(rows))
            self.assertEqual(told, place)
            self.assertIs(type(told), int)
            self.assertIsNone(first_odd(list(rows[:place])))
            self.assertEqual(first_odd(list(rows[:place + 1])), place)

    def test_the_list_without_rows(self):
        self.assertIsNone(first_odd([]))

    def test_a_list_with_all(self):
        self.whole(*WHOLE)
        for count in range(len(WHOLE)):
            self.whole(*WHOLE[:count])

    def test_the_rows_stay(self):
        rows = list(WHOLE)
        first_odd(rows)
        self.assertEqual(rows, WHOLE)
        rows = WHOLE[1:]
        first_odd(rows)
        self.assertEqual(rows, WHOLE[1:])

    def test_next_rows(self):
        self.whole(NEXT)
        self.whole(("next", 1, 0))
        self.whole(("next", 10 ** 6, MOST))
        self.odd(1, NEXT, NEXT)
        self.odd(1, ("next", 1, 0), ("next", 2, 1))
        self.odd(1, came(1, 0, ADD), ("next", 2, 1))
        self.odd(2, NEXT, HAS_ANN, NEXT)
        self.odd(2, NEXT, KEPT_2, NEXT)
        self.odd(2, came(1, 0, SEND), ("asked", 1), NEXT)
        self.odd(2, came(1, 0, ADD), ("done", 1, 0, ("is", 5)), NEXT)

    def test_has_and_kept_rows_without_a_next_row(self):
        self.odd(0, HAS_ANN)
        self.odd(0, KEPT_2)
        self.odd(0, HAS_ANN, NEXT)
        self.odd(0, KEPT_2, NEXT)
        self.odd(0, HAS_ANN, KEPT_2)
        self.whole(NEXT, HAS_ANN)
        self.whole(NEXT, KEPT_2)

    def test_has_and_kept_rows_behind_others(self):
        for behind in (HAS_ANN, KEPT_2):
            self.odd(1, came(10, 20, ADD), behind)
            self.odd(2, NEXT, came(10, 20, ADD), behind)
            self.odd(3, NEXT, came(10, 20, SEND), ("asked", 10), behind)
            self.odd(3, NEXT, came(10, 20, ADD), ("done", 10, 20, ("is", 5)), behind)
        self.odd(3, NEXT, HAS_ANN, came(10, 20, ADD), HAS_BO)
        self.odd(3, NEXT, KEPT_2, came(10, 20, ADD), KEPT_4)
        self.whole(NEXT, HAS_ANN, KEPT_2, came(10, 20, ADD))

    def test_has_behind_kept(self):
        self.odd(2, NEXT, KEPT_2, HAS_ANN)
        self.odd(3, NEXT, HAS_ANN, KEPT_2, HAS_BO)
        self.whole(NEXT, HAS_ANN, HAS_BO, KEPT_2, KEPT_4)

    def test_has_rows_by_names(self):
        self.whole(NEXT, ("has", "a", 1), ("has", "aa", 1), ("has", "ab", 2), ("has", "b", 1), ("has", "zzzzzzzz", 1))
        self.odd(2, NEXT, HAS_ANN, HAS_ANN)
        self.odd(2, NEXT, HAS_ANN, ("has", "ann", 8))
        self.odd(2, NEXT, HAS_BO, HAS_ANN)
        self.odd(2, NEXT, ("has", "aa", 1), ("has", "a", 1))
        self.odd(3, NEXT, HAS_ANN, ("has", "cy", 1), HAS_BO)
        self.odd(3, NEXT, HAS_ANN, HAS_BO, HAS_ANN)

    def test_kept_rows_by_numbers(self):
        self.whole(NEXT, KEPT_2, KEPT_4)
        self.odd(2, NEXT, KEPT_4, KEPT_2)
        self.odd(2, NEXT, KEPT_2, KEPT_2)
        self.odd(2, NEXT, KEPT_2, ("kept", 2, 3, "ann", "x", TAKE, ("is", 0)))
        self.odd(3, NEXT, KEPT_2, ("kept", 6, 18, "cy", "k6", ADD, ("is", 5)), KEPT_4)

    def test_kept_numbers_below_the_next_row_s(self):
        for number, odd in ((1, False), (2, False), (3, True), (4, True), (999999, True)):
            rows = (("next", 3, 20), ("kept", number, 18, "cy", "k2", ADD, ("is", 5)))
            if odd:
                self.odd(1, *rows)
            else:
                self.whole(*rows)
        self.odd(1, ("next", 1, 20), ("kept", 1, 18, "cy", "k2", ADD, ("is", 5)))
        self.whole(("next", 10 ** 6, 20), ("kept", 999999, 18, "cy", "k2", ADD, ("is", 5)))

    def test_kept_and_came_numbers_are_unlike(self):
        self.odd(2, NEXT, KEPT_2, came(2, 20, ADD))
        self.odd(3, NEXT, KEPT_2, KEPT_4, came(4, 20, ADD))
        self.odd(3, NEXT, KEPT_2, KEPT_4, came(2, 20, ADD))
        self.odd(4, NEXT, KEPT_2, KEPT_4, came(1, 20, ADD), came(4, 20, ADD))
        self.whole(NEXT, KEPT_2, KEPT_4, came(1, 20, ADD), came(3, 20, ADD), came(5, 20, ADD))

    def test_came_numbers_rise(self):
        self.odd(1, came(1, 0, ADD), came(1, 0, ADD))
        self.odd(1, came(2, 0, ADD), came(1, 0, TAKE))
        self.odd(3, came(1, 0, ADD), came(5, 0, ADD), ("done", 5, 0, ("is", 5)), came(4, 0, ADD))
        self.odd(2, came(1, 0, ADD), ("done", 1, 0, ("is", 5)), came(1, 0, ADD))
        self.whole(came(1, 0, ADD), came(2, 0, ADD), came(7, 0, ADD), came(999999, 0, ADD))
        # Came rows may lie below the next row's number and at it.
        self.whole(NEXT, came(1, 20, ADD), came(9, 20, ADD), came(10, 20, ADD))
        # One asker and key may come again and again.
        self.whole(came(1, 0, ADD, "cy", "k"), came(2, 0, ADD, "cy", "k"), came(3, 0, TAKE, "cy", "k"))

    def test_asked_rows_of_no_came_row(self):
        self.odd(0, ("asked", 1))
        self.odd(1, came(1, 0, SEND), ("asked", 2))
        self.odd(2, NEXT, KEPT_4, ("asked", 4))
        self.odd(0, ("asked", 1), came(1, 0, SEND))
        self.odd(1, came(1, 0, SEND), ("asked", 2), came(2, 0, SEND))

    def test_asked_rows_twice(self):
        self.odd(2, came(1, 0, SEND), ("asked", 1), ("asked", 1))
        self.odd(4, came(1, 0, SEND), came(2, 0, PASS), ("asked", 1), ("asked", 2), ("asked", 1))
        self.whole(came(1, 0, SEND), came(2, 0, PASS), ("asked", 2), ("asked", 1))

    def test_asked_rows_of_deeds_without_asks(self):
        for deed in DEEDS:
            rows = (came(1, 0, deed), ("asked", 1))
            if asks_of(deed):
                self.whole(*rows)
            else:
                self.odd(1, *rows)

    def test_asked_rows_behind_the_done_one(self):
        self.odd(2, came(1, 0, SEND), ("done", 1, 0, ("short", 1)), ("asked", 1))
        self.odd(3, came(1, 0, SEND), ("asked", 1), ("done", 1, 0, ("is", 1)), ("asked", 1))
        self.odd(2, came(1, 0, ADD), ("done", 1, 0, ("is", 5)), ("asked", 1))
        self.whole(came(1, 0, SEND), came(2, 0, SEND), ("done", 1, 0, ("short", 1)), ("asked", 2))

    def test_done_rows_of_no_came_row(self):
        self.odd(0, ("done", 1, 0, ("is", 5)))
        self.odd(1, came(1, 0, ADD), ("done", 2, 0, ("is", 5)))
        self.odd(0, ("done", 1, 0, ("is", 5)), came(1, 0, ADD))
        self.odd(1, came(1, 0, ADD), ("done", 2, 0, ("is", 5)), came(2, 0, ADD))
        self.odd(2, NEXT, KEPT_2, ("done", 2, 20, ("is", 5)))

    def test_done_rows_twice(self):
        self.odd(2, came(1, 0, ADD), ("done", 1, 0, ("is", 5)), ("done", 1, 0, ("is", 5)))
        self.odd(2, came(1, 0, ADD), ("done", 1, 0, ("is", 5)), ("done", 1, 1, ("is", 6)))
        self.odd(3, came(1, 0, SEND), ("asked", 1), ("done", 1, 0, ("is", 5)), ("done", 1, 0, ("no", "mill")))
        self.whole(came(1, 0, ADD), came(2, 0, ADD), ("done", 2, 0, ("is", 5)), ("done", 1, 0, ("is", 5)))

    def test_answers_that_are_none_of_the_deed_s(self):
        answers = (
            ("is", 0), ("is", 2), ("is", 5), ("is", MOST), ("is", 0, 2), ("is", 5, 1), ("short", 0), ("short", 2),
            ("short", 3), ("full", MOST), ("full", MOST - 4), ("full", MOST - 5), ("ok",), ("no", "mill"), ("no", "inn"),
            ("no", "ann"),
        )
        for deed in DEEDS:
            for answer in answers:
                rows = [came(1, 0, deed)]
                if asks_of(deed) and answer[0] not in ("short", "full"):
                    rows.append(("asked", 1))
                rows.append(("done", 1, 0, answer))
                if is_answer(deed, answer):
                    self.whole(*rows)
                else:
                    self.odd(len(rows) - 1, *rows)

    def test_an_asked_row_just_where_the_answer_says_so(self):
        answers = {
            SEND: (("is", 0), ("no", "mill"), ("short", 3)), FETCH: (("is", 4), ("no", "mill"), ("full", MOST)),
            PASS: (("ok",), ("no", "mill"), ("no", "inn")),
        }
        for deed, of_deed in answers.items():
            for answer in of_deed:
                bare = (came(1, 0, deed), ("done", 1, 0, answer))
                asked = (came(1, 0, deed), ("asked", 1), ("done", 1, 0, answer))
                if answer[0] in ("short", "full"):
                    self.whole(*bare)
                    self.odd(2, *asked)
                else:
                    self.odd(1, *bare)
                    self.whole(*asked)

    def test_an_asked_row_of_another_number_is_none(self):
        self.odd(3, came(1, 0, SEND), came(2, 0, SEND), ("asked", 2), ("done", 1, 0, ("is", 0)))
        self.whole(came(1, 0, SEND), came(2, 0, SEND), ("asked", 2), ("done", 1, 0, ("short", 0)))

    def test_no_asked_row_is_needed_of_a_deed_without_asks(self):
        for deed, answer in ((ADD, ("is", 5)), (ADD, ("full", MOST)), (TAKE, ("is", 0)), (TAKE, ("short", 0)),
                             (MOVE, ("is", 0, 2)), (MOVE, ("short", 0)), (MOVE, ("full", MOST))):
            self.whole(came(1, 0, deed), ("done", 1, 0, answer))

    def test_turns_that_fall(self):
        ok = ("is", 5)
        self.odd(1, ("next", 10, 20), came(10, 19, ADD))
        self.whole(("next", 10, 20), came(10, 20, ADD))
        self.odd(2, ("next", 10, 20), came(10, 20, ADD), ("done", 10, 19, ok))
        self.odd(1, came(1, 7, ADD), came(2, 6, ADD))
        self.odd(1, came(1, 7, ADD), ("done", 1, 6, ok))
        self.odd(2, came(1, 7, ADD), ("done", 1, 9, ok), came(2, 8, ADD))
        self.odd(3, came(1, 7, ADD), came(2, 7, ADD), ("done", 2, 9, ok), ("done", 1, 8, ok))
        self.odd(3, came(1, 7, SEND), came(2, 9, ADD), ("asked", 1), ("done", 1, 8, ("is", 0)))
        self.odd(2, came(1, 0, ADD), came(2, MOST, ADD), came(3, 0, ADD))
        self.odd(3, NEXT, HAS_ANN, KEPT_2, came(10, 19, ADD))
        self.whole(came(1, 7, ADD), came(2, 7, ADD), ("done", 2, 7, ok), ("done", 1, 7, ok), came(3, 7, ADD))
        self.whole(came(1, 0, ADD), ("done", 1, MOST, ok), came(2, MOST, ADD))

    def test_kept_turns(self):
        for turn, odd in ((0, False), (19, False), (20, False), (21, True), (MOST, True)):
            rows = (NEXT, ("kept", 2, turn, "cy", "k2", ADD, ("is", 5)))
            if odd:
                self.odd(1, *rows)
            else:
                self.whole(*rows)
        # Kept rows' own turns may fall, and don't bound the others.
        self.whole(NEXT, ("kept", 2, 19, "cy", "k2", ADD, ("is", 5)), ("kept", 3, 4, "cy", "k3", ADD, ("is", 5)))

    def test_the_first_of_several(self):
        self.odd(1, NEXT, NEXT, HAS_BO, HAS_ANN)
        self.odd(2, came(1, 5, ADD), came(3, 5, ADD), came(2, 4, ADD), HAS_ANN, ("asked", 9))

    def test_one_row_left_out_or_put_in(self):
        """A whole list with one of its rows elsewhere, beside the clauses reckoned row by row over all pairs."""
        for place in range(len(WHOLE)):
            rest = WHOLE[:place] + WHOLE[place + 1:]
            self.assertEqual(first_odd(rest), plainly_odd(rest))
            for back in range(len(WHOLE)):
                rows = rest[:back] + [WHOLE[place]] + rest[back:]
                self.assertEqual(first_odd(rows), plainly_odd(rows))
                twice = WHOLE[:back] + [WHOLE[place]] + WHOLE[back:]
                self.assertEqual(first_odd(twice), plainly_odd(twice))

    def test_drawn_lists(self):
        draw = random.Random(20)
        whole = 0
        for count in range(4000):
            rows = [drawn_row(draw) for place in range(draw.randrange(1, 8))]
            if draw.random() < 0.6:
                rows = sorted(rows, key=lambda row: (ORDER.index(row[0]), row[1]))
            told = first_odd(rows)
            self.assertEqual(told, plainly_odd(rows), rows)
            whole += told is None
        self.assertGreater(whole, 100)

    def test_a_long_list(self):
        rows = [came(number, number, SEND) for number in range(1, 334)]
        rows += [("asked", number) for number in range(333, 0, -1)]
        rows += [("done", number, 400, ("no", "mill")) for number in range(1, 334)]
        self.assertIsNone(first_odd(rows))
        self.assertEqual(first_odd(rows + [("asked", 1)]), len(rows))


ORDER = ("next", "has", "kept", "came", "asked", "done")


def drawn_row(draw):
    number, turn = draw.randrange(1, 5), draw.randrange(3)
    deed = draw.choice(DEEDS)
    word = draw.choice(("next", "has", "kept", "came", "came", "asked", "done", "done"))
    if word == "next":
        return ("next", number, turn)
    if word == "has":
        return ("has", draw.choice(("ann", "bo", "cy")), 5)
    if word == "kept":
        answers = {ADD: ("is", 5), TAKE: ("short", 0), MOVE: ("is", 0, 2), SEND: ("short", 1), FETCH: ("is", 4), PASS: ("ok",)}
        return ("kept", number, turn, "cy", "k", deed, answers[deed])
    if word == "came":
        return came(number, turn, deed)
    if word == "asked":
        return ("asked", number)
    return ("done", number, turn, draw.choice((("is", 5), ("short", 0), ("no", "mill"), ("ok",), ("is", 3, 4))))


def plainly_odd(rows):
    """The place of the first row up to which some clause of point 20 is broken."""
    for place in range(len(rows)):
        if not is_plainly_whole(rows[:place + 1]):
            return place
    return None


def is_plainly_whole(rows):
    """Each clause of point 20, over all rows and pairs of them."""
    words = [row[0] for row in rows]
    pairs = [(rows[i], rows[j]) for j in range(len(rows)) for i in range(j)]
    clauses = [
        "next" not in words[1:],
        words[:1] == ["next"] or not set(words) & {"has", "kept"},
        not any(one[0] in ("came", "asked", "done") and two[0] in ("next", "has", "kept") for one, two in pairs),
        not any(one[0] == "kept" and two[0] == "has" for one, two in pairs),
        not any(one[0] == two[0] and one[0] in ("has", "kept", "came") and one[1] >= two[1] for one, two in pairs),
        not any({one[0], two[0]} == {"kept", "came"} and one[1] == two[1] for one, two in pairs),
        not any(one[0] == "next" and two[0] == "kept" and two[1] >= one[1] for one, two in pairs),
        not any(one[0] == "next" and two[0] == "kept" and two[2] > one[2] for one, two in pairs),
        not any(one[0] == two[0] and one[0] in ("asked", "done") and one[1] == two[1] for one, two in pairs),
        not any(one[0] == "done" and two[0] == "asked" and one[1] == two[1] for one, two in pairs),
        not any(
            one[0] in ("next", "came", "done") and two[0] in ("next", "came", "done") and two[2] < one[2]
            for one, two in pairs
        ),
    ]
    return all(clauses) and all(fits_its_deed(rows, place) for place in range(len(rows)))


def fits_its_deed(rows, place):
    """The clauses of an asked or done row and the deed of its number."""
    row = rows[place]
    if row[0] not in ("asked", "done"):
        return True
    deeds = [other[5] for other in rows[:place] if other[0] == "came" and other[1] == row[1]]
    if not deeds or (row[0] == "asked" and not asks_of(deeds[0])):
        return False
    if row[0] == "asked":
        return True
    if not is_answer(deeds[0], row[3]):
        return False
    if asks_of(deeds[0]):
        return (("asked", row[1]) in rows[:place]) == (row[3][0] not in ("short", "full"))
    return True


class Risen(unittest.TestCase):

    def test_the_list_without_rows(self):
        told = risen([])
        self.assertEqual(told, ([], [], [], 1, 0))
        self.assertIs(type(told), tuple)
        self.assertEqual([type(part) for part in told], [list, list, list, int, int])

    def test_a_list_with_all(self):
        self.assertEqual(risen(WHOLE), (
            [("ann", 8), ("bo", 8)],
            [
                (2, 18, "cy", "k2", ADD, ("is", 5)), (4, 17, "cy", "k4", PASS, ("ok",)),
                (10, 22, "cy", "k10", ADD, ("is", 12)), (11, 23, "cy", "k11", MOVE, ("short", 1)),
                (6, 23, "cy", "k6", SEND, ("is", 8)), (14, 25, "cy", "k14", PASS, ("no", "inn")),
                (17, 27, "cy", "k17", SEND, ("short", 0)), (18, 30, "cy", "k18", FETCH, ("full", MOST)),
            ],
            [(12, "cy", "k12", FETCH), (15, "cy", "k15", PASS)],
            19, 30,
        ))

    def test_the_book(self):
        self.assertEqual(risen([NEXT, HAS_ANN, HAS_BO])[0], [("ann", 7), ("bo", 8)])
        book = {"ann": 7, "bo": 8}
        steps = (
            (ADD, ("is", 12), {"ann": 5}), (TAKE, ("is", 5), {"bo": -3}), (MOVE, ("is", 10, 7), {"ann": -2, "bo": 2}),
            (SEND, ("is", 6), {"ann": -4}), (FETCH, ("is", 11), {"bo": 4}), (PASS, ("ok",), {}), (PASS, ("no", "inn"), {}),
            (SEND, ("no", "mill"), {}), (FETCH, ("no", "mill"), {}), (ADD, ("full", MOST), {}), (TAKE, ("short", 1), {}),
            (MOVE, ("short", 1), {}), (MOVE, ("full", MOST), {}), (SEND, ("short", 1), {}), (FETCH, ("full", MOST), {}),
            (("take", "ann", 6), ("is", 0), {"ann": -6}), (("add", "cy", 1), ("is", 1), {"cy": 1}),
        )
        rows = [NEXT, HAS_ANN, HAS_BO]
        for number, (deed, answer, changes) in enumerate(steps, start=10):
            rows.append(came(number, 20, deed))
            if asks_of(deed) and answer[0] not in ("short", "full"):
                rows.append(("asked", number))
            rows.append(("done", number, 20, answer))
            for name, by in changes.items():
                book[name] = book.get(name, 0) + by
            with self.subTest(number=number):
                self.assertIsNone(first_odd(rows))
                self.assertEqual(risen(rows)[0], sorted(pair for pair in book.items() if pair[1] > 0))

    def test_the_book_is_changed_in_the_order_of_done_rows(self):
        rows = [
            came(1, 0, ("take", "ann", 5)), came(2, 0, ("add", "ann", 5)),
            ("done", 2, 0, ("is", 5)), ("done", 1, 0, ("is", 0)),
        ]
        self.assertEqual(risen(rows)[0], [])
        self.refused("ann", rows[:2] + [rows[3], rows[2]])

    def refused(self, name, rows):
        with self.subTest(rows=rows):
            self.assertIsNone(first_odd(rows))
            with self.assertRaises(DoorError) as caught:
                risen(rows)
            self.assertIs(type(caught.exception), NoChange)
            self.assertEqual(caught.exception.name, name)

    def test_a_change_that_is_refused(self):
        self.refused("bo", [came(1, 0, TAKE), ("done", 1, 0, ("is", 0))])
        self.refused("bo", [("next", 1, 0), ("has", "bo", 2), came(1, 0, TAKE), ("done", 1, 0, ("is", 0))])
        self.refused("ann", [("next", 1, 0), ("has", "ann", MOST - 4), came(1, 0, ADD), ("done", 1, 0, ("is", 5))])
        self.refused("ann", [came(1, 0, MOVE), ("done", 1, 0, ("is", 0, 2))])
        self.refused("bo", [
            ("next", 1, 0), ("has", "ann", 2), ("has", "bo", MOST - 1), came(1, 0, MOVE), ("done", 1, 0, ("is", 0, 2)),
        ])
        # Of move both, the name it is moved from is told first.
        move = ("move", "bo", "ann", 2)
        self.refused("bo", [("next", 1, 0), ("has", "ann", MOST), came(1, 0, move), ("done", 1, 0, ("is", 0, 2))])
        self.refused("ann", [came(1, 0, SEND), ("asked", 1), ("done", 1, 0, ("is", 0))])
        # The first one of several.
        self.refused("bo", [
            came(1, 0, TAKE), came(2, 0, SEND), ("asked", 2), ("done", 1, 0, ("is", 0)), ("done", 2, 0, ("is", 0)),
        ])

    def test_a_change_at_its_bounds(self):
        rows = [("next", 1, 0), ("has", "ann", MOST - 5), ("has", "bo", 3), came(1, 0, ADD), ("done", 1, 0, ("is", 5)),
                came(2, 0, TAKE), ("done", 2, 0, ("is", 0))]
        self.assertEqual(risen(rows)[0], [("ann", MOST)])

    def test_answers_are_not_held_to_the_book(self):
        # The amount that an answer tells is 30's affair: here the change counts.
        self.assertEqual(risen([came(1, 0, ADD), ("done", 1, 0, ("is", 77))])[0], [("ann", 5)])

    def test_kept(self):
        rows = [
            ("next", 9, 5), ("kept", 3, 5, "bo", "k1", ADD, ("is", 5)), ("kept", 7, 1, "ann", "k1", TAKE, ("short", 0)),
            came(9, 6, ADD, "bo", "k1"), came(10, 7, PASS, "cy", "k9"), ("asked", 10), ("done", 10, 8, ("ok",)),
            ("done", 9, 9, ("is", 10)),
        ]
        self.assertEqual(risen(rows)[1], [
            (3, 5, "bo", "k1", ADD, ("is", 5)), (7, 1, "ann", "k1", TAKE, ("short", 0)),
            (10, 8, "cy", "k9", PASS, ("ok",)), (9, 9, "bo", "k1", ADD, ("is", 10)),
        ])
        self.assertEqual(risen(rows[:3])[1], [
            (3, 5, "bo", "k1", ADD, ("is", 5)), (7, 1, "ann", "k1", TAKE, ("short", 0)),
        ])

    def test_open_ones(self):
        rows = [came(1, 0, SEND), came(3, 0, PASS, "bo", "x"), came(4, 0, FETCH), came(6, 0, ADD), came(7, 0, SEND)]
        self.assertEqual(risen(rows)[2], [])
        rows += [("asked", 4), ("asked", 3), ("asked", 1)]
        self.assertEqual(risen(rows)[2], [(1, "cy", "k1", SEND), (3, "bo", "x", PASS), (4, "cy", "k4", FETCH)])
        rows += [("done", 3, 0, ("no", "mill")), ("done", 7, 0, ("short", 0))]
        self.assertEqual(risen(rows)[2], [(1, "cy", "k1", SEND), (4, "cy", "k4", FETCH)])
        rows += [("done", 1, 0, ("no", "mill")), ("done", 4, 0, ("no", "mill"))]
        self.assertEqual(risen(rows)[2], [])

    def test_next(self):
        self.assertEqual(risen([("next", 1, 0)])[3], 1)
        self.assertEqual(risen([("next", 7, 0)])[3], 7)
        self.assertEqual(risen([("next", 10 ** 6, 0)])[3], 10 ** 6)
        self.assertEqual(risen([came(1, 0, ADD)])[3], 2)
        self.assertEqual(risen([came(4, 0, ADD), came(9, 0, ADD)])[3], 10)
        self.assertEqual(risen([came(999999, 0, ADD)])[3], 10 ** 6)
        self.assertEqual(risen([("next", 7, 0), came(5, 0, ADD)])[3], 7)
        self.assertEqual(risen([("next", 7, 0), came(6, 0, ADD)])[3], 7)
        self.assertEqual(risen([("next", 7, 0), came(7, 0, ADD)])[3], 8)
        self.assertEqual(risen([("next", 7, 0), came(5, 0, ADD), came(12, 0, ADD)])[3], 13)
        self.assertEqual(risen([("next", 7, 9), ("kept", 6, 2, "cy", "k", ADD, ("is", 5))])[3], 7)

    def test_turn(self):
        self.assertEqual(risen([("next", 1, 17)])[4], 17)
        self.assertEqual(risen([("next", 1, MOST)])[4], MOST)
        self.assertEqual(risen([came(1, 6, ADD)])[4], 6)
        self.assertEqual(risen([came(1, 6, ADD), ("done", 1, 8, ("is", 5))])[4], 8)
        self.assertEqual(risen([came(1, 6, ADD), came(2, 9, ADD)])[4], 9)
        self.assertEqual(risen([("next", 1, 17), came(1, 18, ADD)])[4], 18)
        self.assertEqual(risen([("next", 9, 17), ("kept", 6, 2, "cy", "k", ADD, ("is", 5))])[4], 17)

    def test_the_rows_stay(self):
        rows = list(WHOLE)
        risen(rows)
        self.assertEqual(rows, WHOLE)

    def test_told_lists_are_the_asker_s_own(self):
        rows = list(WHOLE)
        told = risen(rows)
        other = risen(rows)
        rows.clear()
        self.assertEqual(told, other)
        for part in told[:3]:
            part.clear()
        self.assertEqual(other, risen(WHOLE))
        told = risen([])
        for part in told[:3]:
            part.append("x")
        self.assertEqual(risen([]), ([], [], [], 1, 0))


if __name__ == "__main__":
    unittest.main()
