"""Folded rows: point 22, and point 2 as it holds for it."""

import random
import unittest

from oncedoor.deeds import asks_of
from oncedoor.folds import folded
from oncedoor.risings import first_odd, risen
from oncedoor.rows import is_row

MOST = 10 ** 12

ADD = ("add", "ann", 5)
TAKE = ("take", "ann", 3)
SEND = ("send", "mill", "ann", 4)
FETCH = ("fetch", "mill", "bo", 4)
PASS = ("pass", "mill", "inn", "ann", 4)


def came(number, turn, deed, asker="cy", key=None):
    return ("came", number, turn, asker, key or f"k{number}", deed)


# Under way are 6 and 9 (asked), 7 and 11 (not asked).
ROWS = [
    ("next", 6, 20), ("has", "ann", 7), ("has", "bo", 8),
    ("kept", 2, 18, "cy", "k2", ADD, ("is", 5)), ("kept", 4, 17, "dan", "k2", PASS, ("ok",)),
    came(6, 20, SEND), came(7, 21, ADD), came(8, 21, ADD), ("asked", 6), ("done", 8, 22, ("is", 12)),
    came(9, 22, PASS), came(10, 22, TAKE), ("asked", 9), ("done", 10, 23, ("is", 9)), came(11, 24, TAKE),
]
NUMBERS = (6, 7, 9, 11)


class Case(unittest.TestCase):

    def fold(self, rows, life, turn, numbers):
        """The rows folded, held to all that the point says of any fold."""
        ahead = list(rows)
        given = list(numbers)
        told = folded(rows, life, turn, given)
        self.assertIs(type(told), list)
        self.assertEqual((rows, given), (ahead, list(numbers)))
        self.assertTrue(all(is_row(row) for row in told))
        self.assertIsNone(first_odd(told))
        before, behind = risen(rows), risen(told)
        self.assertEqual(behind[0], before[0])
        self.assertEqual(behind[2], [entry for entry in before[2] if entry[0] in numbers])
        self.assertEqual(behind[3], before[3])
        self.assertEqual(behind[4], turn)
        pairs = [row[3:5] for row in rows if row[0] == "came" and row[1] in numbers]
        last = {entry[2:4]: entry for entry in before[1]}
        still = [entry for pair, entry in last.items() if pair not in pairs and entry[1] + life > turn]
        self.assertEqual(behind[1], sorted(still))
        self.assertEqual(folded(told, life, turn, given), told)
        return told


class Folded(Case):

    def test_all_of_it(self):
        self.assertEqual(self.fold(ROWS, 100, 30, NUMBERS), [
            ("next", 12, 30), ("has", "ann", 9), ("has", "bo", 8),
            ("kept", 2, 18, "cy", "k2", ADD, ("is", 5)), ("kept", 4, 17, "dan", "k2", PASS, ("ok",)),
            ("kept", 8, 22, "cy", "k8", ADD, ("is", 12)), ("kept", 10, 23, "cy", "k10", TAKE, ("is", 9)),
            came(6, 30, SEND), ("asked", 6), came(7, 30, ADD), came(9, 30, PASS), ("asked", 9), came(11, 30, TAKE),
        ])

    def test_the_list_without_rows(self):
        for turn in (0, 1, MOST):
            self.assertEqual(self.fold([], 1, turn, []), [("next", 1, turn)])

    def test_some_all_none_of_the_numbers(self):
        for bits in range(16):
            numbers = [number for place, number in enumerate(NUMBERS) if bits >> place & 1]
            with self.subTest(numbers=numbers):
                told = self.fold(ROWS, 100, 30, numbers)
                self.assertEqual([row[1] for row in told if row[0] == "came"], numbers)
                self.assertEqual([row[1] for row in told if row[0] == "asked"], [n for n in numbers if n in (6, 9)])
                for row in told:
                    if row[0] == "came":
                        self.assertEqual(row[2], 30)
                for place, row in enumerate(told):
                    if row[0] == "asked":
                        self.assertEqual(told[place - 1][:2], ("came", row[1]))
                # A number that isn't told counts all the same.
                self.assertEqual(told[0], ("next", 12, 30))

    def test_no_done_and_no_old_asked_row_stays(self):
        rows = [came(1, 0, SEND), ("asked", 1), ("done", 1, 0, ("no", "mill")), came(2, 0, SEND), ("done", 2, 0, ("short", 3))]
        self.assertEqual(self.fold(rows, 1, 0, []), [
            ("next", 3, 0), ("kept", 1, 0, "cy", "k1", SEND, ("no", "mill")), ("kept", 2, 0, "cy", "k2", SEND, ("short", 3)),
        ])

    def test_at_the_end_of_a_life(self):
        for life in (1, 3, 10, MOST):
            for since in (5, 20):
                rows = [came(1, 0, ADD), ("done", 1, since, ("is", 5))]
                for turn in (since, since + life - 1, since + life, since + life + 1):
                    with self.subTest(life=life, since=since, turn=turn):
                        if turn > MOST:
                            continue
                        kept = [("kept", 1, since, "cy", "k1", ADD, ("is", 5))] if turn < since + life else []
                        self.assertEqual(self.fold(rows, life, turn, []), [("next", 2, turn), ("has", "ann", 5)] + kept)

    def test_at_the_end_of_a_life_of_kept_rows(self):
        rows = [("next", 9, 20), ("kept", 3, 15, "cy", "k", ADD, ("is", 5)), ("kept", 5, 14, "cy", "l", ADD, ("is", 5))]
        self.assertEqual([row[1] for row in self.fold(rows, 10, 23, [])[1:]], [3, 5])
        self.assertEqual([row[1] for row in self.fold(rows, 10, 24, [])[1:]], [3])
        self.assertEqual(self.fold(rows, 10, 25, []), [("next", 9, 25)])

    def test_the_last_one_of_an_asker_and_key(self):
        rows = [
            ("next", 4, 20), ("kept", 3, 15, "cy", "k", ADD, ("is", 5)),
            came(4, 20, TAKE, "cy", "k"), came(5, 20, ADD, "cy", "k"), came(6, 20, ADD, "dan", "k"),
            ("done", 4, 20, ("short", 0)), ("done", 5, 21, ("is", 5)), ("done", 6, 22, ("is", 10)),
        ]
        self.assertEqual(self.fold(rows, 100, 22, []), [
            ("next", 7, 22), ("has", "ann", 10),
            ("kept", 5, 21, "cy", "k", ADD, ("is", 5)), ("kept", 6, 22, "dan", "k", ADD, ("is", 10)),
        ])

    def test_the_last_one_by_its_row_and_not_by_its_number(self):
        rows = [
            came(1, 0, ADD, "cy", "k"), came(2, 0, TAKE, "cy", "k"),
            ("done", 2, 1, ("short", 0)), ("done", 1, 1, ("is", 5)),
        ]
        self.assertEqual(self.fold(rows, 9, 1, []), [
            ("next", 3, 1), ("has", "ann", 5), ("kept", 1, 1, "cy", "k", ADD, ("is", 5)),
        ])

    def test_no_earlier_one_in_the_place_of_the_last(self):
        # The later kept row, by its place, has the earlier turn: where it lives no more nothing stays.
        rows = [("next", 9, 20), ("kept", 3, 18, "cy", "k", ADD, ("is", 5)), ("kept", 5, 11, "cy", "k", TAKE, ("short", 0))]
        self.assertEqual(self.fold(rows, 10, 20, []), [("next", 9, 20), ("kept", 5, 11, "cy", "k", TAKE, ("short", 0))])
        self.assertEqual(self.fold(rows, 10, 21, []), [("next", 9, 21)])

    def test_none_under_which_a_told_number_stands(self):
        rows = [
            ("next", 4, 20), ("kept", 2, 20, "cy", "k", ADD, ("is", 5)), ("kept", 3, 20, "dan", "k", ADD, ("is", 5)),
            came(4, 20, ADD, "cy", "l"), ("done", 4, 20, ("is", 5)), came(5, 20, SEND, "cy", "k"), ("asked", 5),
            came(6, 20, ADD, "cy", "l"),
        ]
        kept = {row[1] for row in self.fold(rows, 9, 20, []) if row[0] == "kept"}
        self.assertEqual(kept, {2, 3, 4})
        kept = {row[1] for row in self.fold(rows, 9, 20, [5]) if row[0] == "kept"}
        self.assertEqual(kept, {3, 4})
        kept = {row[1] for row in self.fold(rows, 9, 20, [6]) if row[0] == "kept"}
        self.assertEqual(kept, {2, 3})
        kept = {row[1] for row in self.fold(rows, 9, 20, [5, 6]) if row[0] == "kept"}
        self.assertEqual(kept, {3})

    def test_askers_and_keys_that_are_beginnings_of_one_another(self):
        rows = [
            ("next", 4, 20), ("kept", 1, 20, "a", "bc", ADD, ("is", 5)), ("kept", 2, 20, "ab", "c", ADD, ("is", 5)),
            came(4, 20, ADD, "abc", "a"), came(5, 20, ADD, "a", "bca"), ("done", 5, 20, ("is", 5)),
        ]
        self.assertEqual([row[1] for row in self.fold(rows, 9, 20, [4]) if row[0] == "kept"], [1, 2, 5])

    def test_kept_rows_by_numbers(self):
        rows = [came(number, 0, ADD) for number in (1, 2, 10, 100)]
        rows += [("done", number, 0, ("is", 5)) for number in (100, 2, 10, 1)]
        self.assertEqual([row[1] for row in self.fold(rows, 9, 0, []) if row[0] == "kept"], [1, 2, 10, 100])

    def test_has_rows_by_names(self):
        rows = [came(number, 0, ("add", name, 5)) for number, name in enumerate(("zo", "ann", "m", "b", "a"), start=1)]
        rows += [("done", number, 0, ("is", 5)) for number in range(1, 6)]
        rows += [came(6, 0, ("take", "m", 5)), ("done", 6, 0, ("is", 0))]
        told = self.fold(rows, 9, 0, [])
        self.assertEqual([row for row in told if row[0] == "has"], [("has", name, 5) for name in ("a", "ann", "b", "zo")])

    def test_next_and_turn(self):
        self.assertEqual(self.fold([("next", 7, 3)], 1, 3, []), [("next", 7, 3)])
        self.assertEqual(self.fold([("next", 7, 3)], 1, 9, []), [("next", 7, 9)])
        self.assertEqual(self.fold([("next", 7, 3), came(3, 3, ADD)], 1, 9, [3]), [("next", 7, 9), came(3, 9, ADD)])
        self.assertEqual(self.fold([("next", 7, 3), came(9, 3, ADD)], 1, 9, []), [("next", 10, 9)])
        self.assertEqual(self.fold([came(999999, MOST, ADD)], 1, MOST, [999999]), [
            ("next", 10 ** 6, MOST), came(999999, MOST, ADD),
        ])

    def test_folded_once_more_at_a_later_turn(self):
        told = self.fold(ROWS, 5, 24, NUMBERS)
        self.assertEqual([row[1] for row in told if row[0] == "kept"], [8, 10])
        told = self.fold(told, 5, 27, NUMBERS[1:])
        self.assertEqual(told, [
            ("next", 12, 27), ("has", "ann", 9), ("has", "bo", 8), ("kept", 10, 23, "cy", "k10", TAKE, ("is", 9)),
            came(7, 27, ADD), came(9, 27, PASS), ("asked", 9), came(11, 27, TAKE),
        ])

    def test_rows_behind_a_fold(self):
        told = self.fold(ROWS, 100, 30, NUMBERS)
        told += [("done", 6, 30, ("is", 5)), ("asked", 6 + 6)]
        self.assertEqual(first_odd(told), len(told) - 1)
        told = told[:-1] + [came(12, 31, FETCH, "cy", "k6"), ("asked", 12), ("done", 7, 31, ("is", 10))]
        self.assertIsNone(first_odd(told))
        self.assertEqual([row[1] for row in self.fold(told, 100, 31, [9, 11, 12]) if row[0] == "kept"], [2, 4, 7, 8, 10])

    def test_told_lists_are_the_asker_s_own(self):
        rows, numbers = list(ROWS), list(NUMBERS)
        told = folded(rows, 100, 30, numbers)
        other = folded(rows, 100, 30, numbers)
        rows.clear()
        numbers.clear()
        self.assertEqual(told, other)
        told.clear()
        self.assertEqual(other, folded(ROWS, 100, 30, list(NUMBERS)))


class Drawn(Case):

    def test_drawn_lists(self):
        draw = random.Random(22)
        for count in range(300):
            rows, under = self.drawn_rows(draw)
            self.assertIsNone(first_odd(rows))
            turn = risen(rows)[4] + draw.randrange(4)
            life = draw.choice((1, 2, 3, 8, 100))
            numbers = [number for number in sorted(under) if draw.random() < 0.7]
            told = self.fold(rows, life, turn, numbers)
            self.fold(told, life, turn + draw.randrange(4), [number for number in numbers if draw.random() < 0.7])

    def drawn_rows(self, draw):
        """A whole list, and the numbers that came and weren't done."""
        rows, under, asked, turn, number = [], {}, [], 0, 1
        for step in range(draw.randrange(25)):
            turn += draw.randrange(2)
            free = [one for one in under if asks_of(under[one]) and one not in asked]
            what = draw.choice(("came", "asked", "done"))
            if what == "came":
                deed = draw.choice((("add", "ann", 5), ("add", "bo", 1), SEND, FETCH, PASS))
                rows.append(came(number, turn, deed, draw.choice(("a", "ab")), draw.choice(("b", "c", "bc"))))
                under[number] = deed
                number += draw.choice((1, 1, 3))
            elif what == "asked" and free:
                asked.append(draw.choice(free))
                rows.append(("asked", asked[-1]))
            elif what == "done" and under:
                one = draw.choice(list(under))
                deed = under[one]
                answers = {"add": ("is", 5), "send": ("short", 0), "fetch": ("full", MOST), "pass": None}
                answer = ("no", "mill") if one in asked else answers[deed[0]]
                if answer is not None:
                    del under[one]
                    rows.append(("done", one, turn, answer))
        return rows, under


if __name__ == "__main__":
    unittest.main()
