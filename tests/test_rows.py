"""Rows and their lines: points 15 and 16."""

import itertools
import unittest

from oncedoor.answers import is_answer
from oncedoor.errors import DoorError, NoRow
from oncedoor.rows import is_row, read_row, shown_row

MOST = 10 ** 12

# Each deed with each of its answers.
ANSWERED = (
    (("add", "ann", 5), ("is", 5)),
    (("add", "ann", 5), ("full", MOST)),
    (("take", "ann", 5), ("is", 0)),
    (("take", "ann", 5), ("short", 4)),
    (("move", "ann", "bo", 5), ("is", 0, 5)),
    (("move", "ann", "bo", 5), ("short", 0)),
    (("move", "ann", "bo", 5), ("full", MOST - 4)),
    (("send", "mill", "ann", 5), ("is", MOST - 5)),
    (("send", "mill", "ann", 5), ("short", 4)),
    (("send", "mill", "ann", 5), ("no", "mill")),
    (("fetch", "mill", "ann", 5), ("is", MOST)),
    (("fetch", "mill", "ann", 5), ("full", MOST)),
    (("fetch", "mill", "ann", 5), ("no", "mill")),
    (("pass", "mill", "inn", "ann", 5), ("no", "mill")),
    (("pass", "mill", "inn", "ann", 5), ("no", "inn")),
    (("pass", "mill", "inn", "ann", 5), ("ok",)),
)

# The rows whose lines point 16 writes out.
WRITTEN = (
    (("next", 4, 17), "next 4 17"),
    (("has", "ann", 5), "has ann 5"),
    (("kept", 2, 9, "bo", "k1", ("move", "ann", "bo", 5), ("is", 0, 5)), "kept 2 9 bo k1 move ann bo 5 = is 0 5"),
    (("came", 3, 12, "bo", "k2", ("take", "ann", 5)), "came 3 12 bo k2 take ann 5"),
    (("asked", 3), "asked 3"),
    (("done", 3, 12, ("short", 0)), "done 3 12 short 0"),
)

ROWS = tuple(row for row, line in WRITTEN) + tuple(
    row for deed, answer in ANSWERED for row in (
        ("kept", 2, 9, "bo", "k1", deed, answer), ("came", 3, 12, "bo", "k2", deed), ("done", 3, 12, answer),
    )
)

# The least and the greatest of each number, by row's word and place.
BOUNDS = {
    ("next", 1): (1, 10 ** 6), ("next", 2): (0, MOST), ("has", 2): (1, MOST), ("kept", 1): (1, 999999),
    ("kept", 2): (0, MOST), ("came", 1): (1, 999999), ("came", 2): (0, MOST), ("asked", 1): (1, 999999),
    ("done", 1): (1, 999999), ("done", 2): (0, MOST),
}

# Things that are no part of any row.
NO_PARTS = (
    True, False, None, "", " ", "Ann", "an n", "ann\n", "K1", -1, 10 ** 13, 1.0, 1e12, float("nan"), b"ann", [], [5],
    ["ann"], (), (5,), ("ann",), {}, {"ann": 5}, {"ann"}, object(), len, "take ann 5", "short 0",
    ["take", "ann", 5], ["short", 0],
)


def put(parts, place, part):
    """The tuple with another part at a place."""
    return parts[:place] + (part,) + parts[place + 1:]


def by_hand(text):
    """The tuple that a text of the form of a row's line tells; it may be no row."""
    texts = text.split(" ")
    words = [int(word) if word.isdigit() else word for word in texts]
    if words[0] in ("kept", "came"):
        words[4:5] = texts[4:5]
    if words[0] == "kept" and "=" in words:
        sign = words.index("=")
        return (*words[:5], tuple(words[5:sign]), tuple(words[sign + 1:]))
    if words[0] == "came":
        return (*words[:5], tuple(words[5:]))
    if words[0] == "done":
        return (*words[:3], tuple(words[3:]))
    return tuple(words)


class IsRow(unittest.TestCase):

    def check(self, thing, due):
        with self.subTest(thing=thing):
            self.assertIs(is_row(thing), due)

    def test_each_word_with_each_deed_and_answer(self):
        for row in ROWS:
            self.check(row, True)

    def test_numbers_at_their_bounds(self):
        for row, line in WRITTEN:
            for place in range(1, len(row)):
                if (row[0], place) in BOUNDS:
                    least, most = BOUNDS[row[0], place]
                    for number in (least, least + 1, most - 1, most):
                        self.check(put(row, place, number), True)
                    for number in (least - 1, most + 1, -1, -most, 10 ** 40):
                        self.check(put(row, place, number), False)

    def test_names_and_keys(self):
        places = [("has", 1, 8), ("kept", 3, 8), ("came", 3, 8), ("kept", 4, 12), ("came", 4, 12)]
        rows = {row[0]: row for row, line in WRITTEN}
        for word, place, longest in places:
            for length in (1, 2, longest):
                self.check(put(rows[word], place, "q" * length), True)
            self.check(put(rows[word], place, "q" * (longest + 1)), False)
            self.check(put(rows[word], place, "k1"), longest == 12)
            self.check(put(rows[word], place, "7"), longest == 12)

    def test_things_that_are_no_parts(self):
        for row in ROWS:
            for place in range(1, len(row)):
                for part in NO_PARTS:
                    self.check(put(row, place, part), False)

    def test_a_truth_where_its_number_would_do(self):
        self.check(("next", 1, 0), True)
        for row in (("next", True, 0), ("next", 1, False), ("next", 1, True), ("has", "ann", True), ("asked", True)):
            self.check(row, False)
        self.check(("done", True, 0, ("ok",)), False)
        self.check(("done", 1, False, ("ok",)), False)
        self.check(("done", 1, 0, ("is", True)), False)
        self.check(("came", 1, 0, "bo", "k1", ("add", "ann", True)), False)
        self.check(("kept", 1, 0, "bo", "k1", ("add", "ann", 1), ("is", True)), False)
        self.check(("kept", 1, 0, "bo", "k1", ("add", "ann", True), ("is", 1)), False)

    def test_things_that_are_no_parts_within_deed_and_answer(self):
        for row in ROWS:
            for place in range(1, len(row)):
                if isinstance(row[place], tuple):
                    for within in range(len(row[place])):
                        for part in NO_PARTS:
                            self.check(put(row, place, put(row[place], within, part)), False)

    def test_lists_in_place_of_deed_and_answer(self):
        for row in ROWS:
            self.check(list(row), False)
            for place in range(1, len(row)):
                if isinstance(row[place], tuple):
                    self.check(put(row, place, list(row[place])), False)
                    self.check(put(row, place, (row[place],)), False)
                    self.check(row[:place] + row[place] + row[place + 1:], False)

    def test_parts_left_out_or_put_in_twice(self):
        for row in ROWS:
            for place in range(len(row)):
                self.check(row[:place] + row[place + 1:], False)
                self.check(row[:place + 1] + row[place:], False)
            for part in (None, 5, "ann", "=", (), "k1"):
                for place in range(len(row) + 1):
                    self.check(row[:place] + (part,) + row[place:], False)

    def test_parts_exchanged(self):
        for row in (("next", 10 ** 6, 999999), ("has", "ann", 5), ("asked", 3), ("done", 3, 0, ("short", 0))):
            for parts in itertools.permutations(row):
                self.check(parts, parts == row or (row[0] == "next" and parts[0] == "next"))
        for row in ROWS:
            for one, other in itertools.combinations(range(len(row)), 2):
                parts = put(put(row, one, row[other]), other, row[one])
                self.check(parts, row[0] != "has" and (one, other) == (1, 2))
        self.check(("came", 3, 12, "bo", "cy", ("take", "ann", 5)), True)
        self.check(("came", 3, 12, "cy", "bo", ("take", "ann", 5)), True)

    def test_other_words(self):
        others = (
            "", " ", "Next", "next ", "nexts", "is", "add", "take", "begun", "=", None, True, 0, 5, b"next", [], ["next"],
            (), ("next",), {}, {"next"}, object(),
        )
        for row in ROWS:
            for word in others + ("next", "has", "kept", "came", "asked", "done"):
                if word != row[0]:
                    self.check((word,) + row[1:], False)

    def test_kept_has_an_answer_of_its_deed(self):
        for deed, answer in ANSWERED:
            for other, theirs in ANSWERED:
                self.check(("kept", 2, 9, "bo", "k1", deed, theirs), is_answer(deed, theirs))

    def test_kept_at_the_bounds_of_its_deed_s_answers(self):
        edges = (
            (("add", "ann", 5), "is", 5, MOST), (("add", "ann", 5), "full", MOST - 4, MOST),
            (("take", "ann", 5), "is", 0, MOST - 5), (("take", "ann", 5), "short", 0, 4),
            (("send", "mill", "ann", 5), "is", 0, MOST - 5), (("send", "mill", "ann", 5), "short", 0, 4),
            (("fetch", "mill", "ann", 5), "is", 5, MOST), (("fetch", "mill", "ann", 5), "full", MOST - 4, MOST),
            (("move", "ann", "bo", 5), "short", 0, 4), (("move", "ann", "bo", 5), "full", MOST - 4, MOST),
        )
        for deed, word, least, most in edges:
            for number in (least, most, least - 1, most + 1):
                self.check(("kept", 2, 9, "bo", "k1", deed, (word, number)), least <= number <= most)
        for here, there in ((0, 5), (0, MOST), (MOST - 5, 5), (MOST - 5, MOST)):
            row = ("kept", 2, 9, "bo", "k1", ("move", "ann", "bo", 5), ("is", here, there))
            self.check(row, True)
        for here, there in ((-1, 5), (0, 4), (MOST - 4, 5), (0, MOST + 1)):
            row = ("kept", 2, 9, "bo", "k1", ("move", "ann", "bo", 5), ("is", here, there))
            self.check(row, False)
        self.check(("kept", 2, 9, "bo", "k1", ("send", "mill", "ann", 5), ("no", "inn")), False)
        self.check(("kept", 2, 9, "bo", "k1", ("pass", "mill", "inn", "ann", 5), ("no", "ann")), False)

    def test_done_has_an_answer_that_some_deed_can_have(self):
        edges = (("is", 0, MOST), ("short", 0, MOST - 1), ("full", 1, MOST))
        for word, least, most in edges:
            for number in (least, least + 1, 5, most - 1, most):
                self.check(("done", 3, 12, (word, number)), True)
            for number in (least - 1, most + 1, -5, 10 ** 40):
                self.check(("done", 3, 12, (word, number)), False)
        self.check(("done", 3, 12, ("full", 0)), False)
        self.check(("done", 3, 12, ("short", MOST)), False)
        for here in (-1, 0, 1, 5, MOST - 1, MOST, MOST + 1):
            for there in (-1, 0, 1, 5, MOST - 1, MOST, MOST + 1):
                self.check(("done", 3, 12, ("is", here, there)), 0 <= here < MOST and 1 <= there <= MOST)
        for house in ("mill", "inn", "a", "abcdefgh", "ok", "no"):
            self.check(("done", 3, 12, ("no", house)), True)
        for house in ("", "abcdefghi", "Mill", "mill\n", "k1", 5, None, True, [], ("mill",)):
            self.check(("done", 3, 12, ("no", house)), False)
        self.check(("done", 3, 12, ("ok",)), True)

    def test_done_with_things_that_are_no_answers(self):
        things = (
            ("ok", 0), ("ok", "mill"), ("ok", None), ("no",), ("no", "mill", "inn"), ("no", "mill", 5), ("is",),
            ("is", 1, 2, 3), ("short",), ("short", 0, 1), ("full",), ("full", 5, 5), ("yes",), ("undone",), ("other",),
            ("kept", 5), (), ("",), (5,), (None,), (True, 5), ("is", None), ("is", "5"), ("is", 5, None), ("is", 5, True),
            ("take", "ann", 5),
        )
        for thing in things:
            self.check(("done", 3, 12, thing), False)

    def test_things_of_any_other_kind(self):
        things = (
            None, True, False, 0, 5, 1.5, "", "asked 3", "asked", b"asked 3", [], (), (5,), ("asked",), {}, {"asked": 3},
            {"asked", 3}, frozenset(), object(), tuple, len, range(3), (None, None), ([], []), ({}, {}), ((), ()),
            (("asked", 3),), (("asked",), 3), ("take", "ann", 5), ("short", 0), ("is", 3),
        )
        for thing in things:
            self.check(thing, False)

    def test_nothing_that_is_handed_in_is_changed(self):
        thing = ["asked", 3]
        is_row(thing)
        is_row(("done", 3, 12, thing))
        is_row((thing, thing))
        self.assertEqual(thing, ["asked", 3])


class Lines(unittest.TestCase):

    def there_and_back(self, row):
        with self.subTest(row=row):
            line = shown_row(row)
            self.assertIs(type(line), str)
            read = read_row(line)
            self.assertEqual(read, row)
            self.assertIs(is_row(read), True)

    def refused(self, text):
        with self.subTest(text=text):
            with self.assertRaises(DoorError) as caught:
                read_row(text)
            self.assertIs(type(caught.exception), NoRow)

    def test_the_written_ones(self):
        for row, line in WRITTEN:
            self.assertEqual(shown_row(row), line)
            self.assertEqual(read_row(line), row)

    def test_each_deed_and_answer(self):
        for deed, answer in ANSWERED:
            shown = " ".join(str(part) for part in deed)
            answered = " ".join(str(part) for part in answer)
            self.assertEqual(shown_row(("kept", 2, 9, "bo", "k1", deed, answer)), f"kept 2 9 bo k1 {shown} = {answered}")
            self.assertEqual(shown_row(("came", 3, 12, "bo", "k2", deed)), f"came 3 12 bo k2 {shown}")
            self.assertEqual(shown_row(("done", 3, 12, answer)), f"done 3 12 {answered}")

    def test_there_and_back(self):
        for row in ROWS:
            self.there_and_back(row)

    def test_there_and_back_at_the_bounds(self):
        for row in ROWS:
            for place in range(1, len(row)):
                for number in BOUNDS.get((row[0], place), ()):
                    self.there_and_back(put(row, place, number))
        for key in ("0", "007", "abcdefgh1234", "k", "123456789012"):
            self.there_and_back(("came", 3, 12, "bo", key, ("take", "ann", 5)))
            self.there_and_back(("kept", 3, 12, "bo", key, ("take", "ann", 5), ("is", 0)))
        for name in ("a", "abcdefgh", "is", "no", "add", "kept"):
            self.there_and_back(("has", name, 5))
            self.there_and_back(("came", 3, 12, name, name, ("add", name, MOST)))
            self.there_and_back(("kept", 3, 12, name, name, ("pass", name, "inn", name, MOST), ("no", name)))
            self.there_and_back(("done", 3, 12, ("no", name)))

    def read_or_refused(self, words):
        """Words write the row that they tell by hand, or none."""
        text = " ".join(words)
        row = by_hand(text)
        if is_row(row) and shown_row(row) == text:
            self.assertEqual(read_row(text), row)
        else:
            self.refused(text)

    def test_words_left_out_or_doubled(self):
        for row in ROWS:
            words = shown_row(row).split(" ")
            for place in range(len(words)):
                self.read_or_refused(words[:place] + words[place + 1:])
                self.read_or_refused(words[:place + 1] + words[place:])
        for row, line in WRITTEN:
            words = line.split(" ")
            for place in range(len(words)):
                self.refused(" ".join(words[:place] + words[place + 1:]))
                self.refused(" ".join(words[:place + 1] + words[place:]))

    def test_words_exchanged(self):
        for row in ROWS:
            words = shown_row(row).split(" ")
            for one, other in itertools.combinations(range(len(words)), 2):
                swapped = list(words)
                swapped[one], swapped[other] = words[other], words[one]
                self.read_or_refused(swapped)
        self.assertEqual(read_row("next 17 4"), ("next", 17, 4))
        self.assertEqual(read_row("done 3 0 short 12"), ("done", 3, 0, ("short", 12)))
        for text in ("4 next 17", "ann has 5", "has 5 ann", "3 asked", "done 3 12 0 short", "done short 12 3 0"):
            self.refused(text)
        for text in ("came 3 12 k2 bo take ann 5", "came 3 12 bo take k2 ann 5", "came bo 12 3 k2 take ann 5"):
            self.refused(text)
        self.refused("kept 2 9 bo k1 move ann bo 5 = is 5 0")
        self.refused("kept 2 9 bo k1 move ann bo = 5 is 0 5")

    def test_words_put_in(self):
        for row, line in WRITTEN:
            words = line.split(" ")
            for place in range(len(words) + 1):
                for word in ("=", "zz1", "Zed", "-1", "007", ""):
                    self.refused(" ".join(words[:place] + [word] + words[place:]))

    def test_the_sign_between_deed_and_answer(self):
        self.refused("kept 2 9 bo k1 move ann bo 5 is 0 5")
        self.refused("kept 2 9 bo k1 move ann bo 5 = = is 0 5")
        self.refused("kept 2 9 bo k1 move ann bo 5 == is 0 5")
        self.refused("kept 2 9 bo k1 move ann bo 5 =is 0 5")
        self.refused("kept 2 9 bo k1 move ann bo 5= is 0 5")
        self.refused("kept 2 9 bo k1 move ann bo 5=is 0 5")
        self.refused("kept 2 9 bo k1 move ann bo 5 = is 0 5 =")
        self.refused("kept 2 9 bo k1 = move ann bo 5 is 0 5")
        self.refused("kept 2 9 bo k1 move ann bo 5 =")
        self.refused("kept 2 9 bo k1 move ann bo 5 = ")
        self.refused("kept 2 9 bo k1 = is 0 5")
        self.refused("kept = is 0 5")
        self.refused("kept 2 9 bo k1 is 0 5 = move ann bo 5")
        self.refused("kept 2 9 bo k1 move ann bo 5 : is 0 5")
        self.refused("came 3 12 bo k2 take ann 5 = is 0")
        self.refused("came 3 12 bo k2 = take ann 5")
        self.refused("done 3 12 = short 0")
        self.refused("done 3 = 12 short 0")
        self.refused("next 4 = 17")
        self.refused("= asked 3")

    def test_kept_without_an_answer_of_its_deed(self):
        self.refused("kept 2 9 bo k1 move ann bo 5 = is 5")
        self.refused("kept 2 9 bo k1 move ann bo 5 = is 0 4")
        self.refused("kept 2 9 bo k1 move ann bo 5 = short 5")
        self.refused("kept 2 9 bo k1 take ann 5 = full 1000000000000")
        self.refused("kept 2 9 bo k1 send mill ann 5 = no inn")
        self.refused("kept 2 9 bo k1 send mill ann 5 = ok")
        self.refused("kept 2 9 bo k1 pass mill inn ann 5 = is 5")
        self.refused("done 3 12 full 0")
        self.refused("done 3 12 short 1000000000000")

    def test_blanks_more_or_less(self):
        for row in ROWS:
            line = shown_row(row)
            self.refused(" " + line)
            self.refused(line + " ")
            self.refused(line + "  ")
            for place, sign in enumerate(line):
                if sign == " ":
                    self.refused(line[:place] + " " + line[place:])
                    self.refused(line[:place] + "  " + line[place:])

    def test_line_ends(self):
        for row in ROWS:
            line = shown_row(row)
            for place in range(len(line) + 1):
                self.refused(line[:place] + "\n" + line[place:])
            for place, sign in enumerate(line):
                if sign == " ":
                    self.refused(line[:place] + "\n" + line[place + 1:])
        self.refused("asked 3\nasked 4")

    def test_numbers_that_are_not_written_so(self):
        wrong = ("", "-1", "+1", "-0", "00", "01", "007", "1.0", "1e3", "1_0", "0x1", "one", "None", "True", "5a",
                 "1" + "0" * 13, "0" * 13, "9" * 14, "9" * 100)
        for row in ROWS:
            words = shown_row(row).split(" ")
            for place, word in enumerate(words):
                if word.isdigit():
                    for number in wrong:
                        self.refused(" ".join(words[:place] + [number] + words[place + 1:]))

    def test_numbers_beyond_their_bounds(self):
        for row, line in WRITTEN:
            for place in range(1, len(row)):
                if (row[0], place) in BOUNDS:
                    least, most = BOUNDS[row[0], place]
                    for number in (least - 1, most + 1):
                        self.refused(shown_row(put(row, place, number)))

    def test_names_and_keys_that_are_none(self):
        for name in ("", "Ann", "a-n", "abcdefghi", "5", "k1", "="):
            self.refused(f"has {name} 5")
            self.refused(f"came 3 12 {name} k2 take ann 5")
            self.refused(f"came 3 12 bo k2 take {name} 5")
            self.refused(f"kept 2 9 {name} k1 take ann 5 = is 0")
            self.refused(f"done 3 12 no {name}")
        for key in ("", "K1", "k-1", "abcdefgh12345", "="):
            self.refused(f"came 3 12 bo {key} take ann 5")
            self.refused(f"kept 2 9 bo {key} take ann 5 = is 0")

    def test_texts_that_are_nothing_like_it(self):
        texts = (
            "", " ", "  ", "\n", "=", " = ", "5", "next", "has", "kept", "came", "asked", "done", "next 4", "has ann",
            "asked ", "came 3 12 bo k2", "came 3 12 bo", "came 3", "done 3 12", "done 3", "kept 2 9 bo k1", "kept = ",
            "take ann 5", "short 0", "NEXT 4 17", "Next 4 17", "next,4,17", "('asked', 3)", "asked 3;", "asked 3 # so",
            "came 3 12 bo k2 take ann bo 5", "came 3 12 bo k2 move ann ann 5", "a" * 60000, " " * 60000, "= " * 30000,
        )
        for text in texts:
            self.refused(text)


if __name__ == "__main__":
    unittest.main()
