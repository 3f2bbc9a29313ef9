"""Deeds: points 6 and 7."""

import itertools
import unittest

from oncedoor.deeds import asks_of, is_deed, names_of, read_deed, shown_deed
from oncedoor.errors import DoorError, NoDeed

MOST = 10 ** 12

# A deed of each word, its text, the names it touches and its asks.
DEEDS = (
    (("add", "ann", 5), "add ann 5", ("ann",), ()),
    (("take", "ann", 5), "take ann 5", ("ann",), ()),
    (("move", "ann", "bo", 5), "move ann bo 5", ("ann", "bo"), ()),
    (("send", "mill", "ann", 5), "send mill ann 5", ("ann",), (("mill", ("add", "ann", 5)),)),
    (("fetch", "mill", "ann", 5), "fetch mill ann 5", ("ann",), (("mill", ("take", "ann", 5)),)),
    (
        ("pass", "mill", "inn", "ann", 5), "pass mill inn ann 5", (),
        (("mill", ("take", "ann", 5)), ("inn", ("add", "ann", 5))),
    ),
)

NO_NAMES = (
    "", " ", "Ann", "an n", "ann ", " ann", "ann\n", "a1", "1", "an-n", "abcdefghi",
    None, True, 5, 1.0, b"ann", [], ["ann"], ("ann",), {}, {"ann"}, object(),
)

NO_AMOUNTS = (
    0, -1, -5, -MOST, MOST + 1, MOST * 10, 10 ** 30, True, False, None, "5", "", 1.0, 5.0, 1e12,
    float("nan"), float("inf"), b"5", [5], (5,), {5: 5}, {5}, object(), 5 + 0j,
)


class IsDeed(unittest.TestCase):

    def check(self, thing, due):
        with self.subTest(thing=thing):
            self.assertIs(is_deed(thing), due)

    def test_each_word(self):
        for deed, *rest in DEEDS:
            self.check(deed, True)

    def test_amounts(self):
        for deed, *rest in DEEDS:
            for n in (1, 2, 10, MOST - 1, MOST):
                self.check(deed[:-1] + (n,), True)
            for n in NO_AMOUNTS:
                self.check(deed[:-1] + (n,), False)

    def test_lengths_of_names(self):
        for deed, *rest in DEEDS:
            for place in range(1, len(deed) - 1):
                for length in (1, 8):
                    self.check(deed[:place] + ("q" * length,) + deed[place + 1:], True)

    def test_names_that_are_none(self):
        for deed, *rest in DEEDS:
            for place in range(1, len(deed) - 1):
                for name in NO_NAMES:
                    self.check(deed[:place] + (name,) + deed[place + 1:], False)

    def test_names_that_must_be_unlike(self):
        self.check(("move", "ann", "ann", 5), False)
        self.check(("pass", "mill", "mill", "ann", 5), False)

    def test_names_that_may_be_alike(self):
        self.check(("send", "ann", "ann", 5), True)
        self.check(("fetch", "ann", "ann", 5), True)
        self.check(("pass", "ann", "inn", "ann", 5), True)
        self.check(("pass", "mill", "ann", "ann", 5), True)

    def test_names_that_are_words_of_deeds(self):
        self.check(("add", "add", 5), True)
        self.check(("move", "move", "take", 5), True)

    def test_a_part_more_or_less(self):
        for deed, *rest in DEEDS:
            for place in range(len(deed)):
                self.check(deed[:place] + deed[place + 1:], False)
            for place in range(len(deed) + 1):
                for part in (5, None, "", deed, "zed"):
                    self.check(deed[:place] + (part,) + deed[place:], False)
        self.check(("add", "ann", "bo", 5), False)
        self.check(("take", "ann", "bo", 5), False)
        self.check(("move", "ann", 5), False)
        self.check(("move", "ann", "bo", "cy", 5), False)
        self.check(("send", "ann", 5), False)
        self.check(("send", "mill", "inn", "ann", 5), False)
        self.check(("fetch", "ann", 5), False)
        self.check(("fetch", "mill", "inn", "ann", 5), False)
        self.check(("pass", "mill", "ann", 5), False)
        self.check(("pass", "mill", "inn", "ann", "bo", 5), False)

    def test_parts_exchanged(self):
        for deed, *rest in DEEDS:
            for parts in itertools.permutations(deed):
                self.check(parts, parts[0] == deed[0] and parts[-1] == 5)

    def test_other_words(self):
        words = (
            "", " ", "Add", "ADD", "add ", " add", "add\n", "ad", "adds", "give", "ann", "is", "next",
            None, True, 0, 5, b"add", [], ["add"], ("add",), {}, {"add"}, {"add": 1}, object(), float("nan"),
        )
        for word in words:
            for deed, *rest in DEEDS:
                self.check((word,) + deed[1:], False)

    def test_a_list_in_place_of_the_tuple(self):
        for deed, *rest in DEEDS:
            self.check(list(deed), False)
            self.check((deed,), False)
            self.check(deed[:1] + (deed[1:],), False)

    def test_things_of_other_kinds(self):
        things = (
            None, True, False, 0, 5, 1.5, "", "add ann 5", "add", b"add ann 5", [], (), (5,), ("add",), {},
            {"add": "ann"}, {"add", "ann"}, frozenset(), object(), tuple, len, range(3), (None, None, None),
            ([], [], []), ({}, {}, {}), (((), (), ()), (), ()),
        )
        for thing in things:
            self.check(thing, False)

    def test_nothing_that_is_handed_in_is_changed(self):
        thing = ["add", "ann", 5]
        is_deed(thing)
        is_deed((thing, thing, thing))
        self.assertEqual(thing, ["add", "ann", 5])


class Texts(unittest.TestCase):

    def test_there_and_back(self):
        for deed, text, *rest in DEEDS:
            with self.subTest(text):
                self.assertEqual(shown_deed(deed), text)
                self.assertEqual(read_deed(text), deed)

    def test_there_and_back_at_the_edges(self):
        for deed, *rest in DEEDS:
            for n in (1, 9, 10, 999, MOST - 1, MOST):
                for name in ("q", "qrstuvwx", "add"):
                    edge = deed[:-2] + (name, n)
                    with self.subTest(edge=edge):
                        text = shown_deed(edge)
                        self.assertEqual(text, " ".join(edge[:-1]) + " " + str(n))
                        self.assertEqual(read_deed(text), edge)

    def test_what_is_read_is_a_deed(self):
        for deed, text, *rest in DEEDS:
            read = read_deed(text)
            self.assertIs(is_deed(read), True)
            self.assertIs(type(read), tuple)
            self.assertIs(type(read[-1]), int)

    def refused(self, text):
        with self.subTest(text=text):
            with self.assertRaises(DoorError) as caught:
                read_deed(text)
            self.assertIs(type(caught.exception), NoDeed)

    def test_words_left_out_or_doubled(self):
        for deed, text, *rest in DEEDS:
            words = text.split(" ")
            for place in range(len(words)):
                self.refused(" ".join(words[:place] + words[place + 1:]))
                self.refused(" ".join(words[:place + 1] + words[place:]))

    def test_words_exchanged(self):
        for deed, text, *rest in DEEDS:
            for words in itertools.permutations(text.split(" ")):
                if words[0] == deed[0] and words[-1] == "5":
                    self.assertEqual(read_deed(" ".join(words)), words[:-1] + (5,))
                else:
                    self.refused(" ".join(words))

    def test_blanks_more_or_less(self):
        for deed, text, *rest in DEEDS:
            self.refused(" " + text)
            self.refused(text + " ")
            self.refused(text.replace(" ", "  "))
            self.refused(text.replace(" ", "  ", 1))
            self.refused("  ".join(text.rsplit(" ", 1)))
            self.refused(text.replace(" ", ""))
            self.refused(text.replace(" ", "", 1))

    def test_line_ends(self):
        for deed, text, *rest in DEEDS:
            for place in range(len(text) + 1):
                self.refused(text[:place] + "\n" + text[place:])
            self.refused(text.replace(" ", "\n"))

    def test_amounts_that_are_not_written_as_numbers(self):
        amounts = (
            "0", "00", "05", "007", "-5", "+5", "-0", "5.0", "5e3", "1_0", "0x5", "five", "", "5\n", "None", "True",
            str(MOST + 1), "9" * 13, "1" + "0" * 13, "01000000000000", "9" * 100,
        )
        for deed, text, *rest in DEEDS:
            for amount in amounts:
                self.refused(text[:-1] + amount)

    def test_names_that_are_none_or_too_alike(self):
        for name in ("", "Ann", "a1", "an-n", "abcdefghi", "ann\n", "5"):
            for deed, *rest in DEEDS:
                for place in range(1, len(deed) - 1):
                    self.refused(shown_deed(deed[:place] + (name,) + deed[place + 1:]))
        self.refused("move ann ann 5")
        self.refused("pass mill mill ann 5")

    def test_texts_that_are_nothing_like_it(self):
        texts = (
            "", " ", "  ", "   ", "\n", "5", "add", "add ann", "ann 5", "add ann 5 5", "add ann five", "ADD ann 5",
            "Add ann 5", "give ann 5", "add,ann,5", "('add', 'ann', 5)", "add ann bo 5", "move ann 5", "pass mill ann 5",
            "add ann 5;", "add ann 5 # so", "a" * 60000, " " * 60000, "add ann 5" + " " * 1000,
        )
        for text in texts:
            self.refused(text)


class NamesAndAsks(unittest.TestCase):

    def test_names_touched(self):
        for deed, text, names, asks in DEEDS:
            with self.subTest(text):
                self.assertEqual(names_of(deed), names)
                self.assertIs(type(names_of(deed)), tuple)

    def test_names_of_move_in_the_order_of_texts(self):
        self.assertEqual(names_of(("move", "bo", "ann", 5)), ("ann", "bo"))
        self.assertEqual(names_of(("move", "b", "abc", 5)), ("abc", "b"))
        self.assertEqual(names_of(("move", "abc", "ab", 5)), ("ab", "abc"))
        self.assertEqual(names_of(("move", "ab", "abc", 5)), ("ab", "abc"))

    def test_the_house_is_not_touched(self):
        self.assertEqual(names_of(("send", "ann", "bo", 5)), ("bo",))
        self.assertEqual(names_of(("fetch", "bo", "ann", 5)), ("ann",))
        self.assertEqual(names_of(("pass", "ann", "bo", "ann", 5)), ())

    def test_asks(self):
        for deed, text, names, asks in DEEDS:
            with self.subTest(text):
                self.assertEqual(asks_of(deed), asks)
                self.assertIs(type(asks_of(deed)), tuple)

    def test_asks_of_pass_keep_their_order(self):
        asks = asks_of(("pass", "zoo", "abbey", "zoo", MOST))
        self.assertEqual(asks, (("zoo", ("take", "zoo", MOST)), ("abbey", ("add", "zoo", MOST))))

    def test_asks_are_pairs_of_a_house_and_a_deed(self):
        for deed, *rest in DEEDS:
            for ask in asks_of(deed):
                self.assertIs(type(ask), tuple)
                house, there = ask
                self.assertIn(house, deed[1:3])
                self.assertIs(is_deed(there), True)
                self.assertEqual(there[1:], deed[-2:])


if __name__ == "__main__":
    unittest.main()
