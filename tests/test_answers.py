"""Answers: points 9, 10 and 11."""

import unittest

from oncedoor.answers import changes_of, early, is_answer, late
from oncedoor.books import Book
from oncedoor.deeds import asks_of

MOST = 10 ** 12

# Amounts of deeds, from the least to the greatest.
AMOUNTS = (1, 2, 5, 1000, MOST - 1, MOST)

THINGS = (
    None, True, False, 0, 1, 5, -1, 1.5, "", "is", "is 5", "ok", "no", b"ok", [], (), {}, {"is": 5}, {"ok"},
    frozenset(["ok"]), object(), tuple, len, range(3), (None,), (5,), (5, 5), ([],), ({},), ((),), (("ok",),),
    ("is",), ("short",), ("full",), ("no",), ("yes",), ("undone",), ("kept", 5), ("",), ("ok ",), ("OK",), ("o", "k"),
)


class Early(unittest.TestCase):

    def check(self, pairs, deed, due):
        book = Book(pairs)
        with self.subTest(pairs=pairs, deed=deed):
            told = early(book, deed)
            self.assertEqual(told, due)
            self.assertIs(type(told), type(due))
            self.assertEqual(book.rows(), sorted(pair for pair in pairs if pair[1] > 0))

    def test_add(self):
        self.check([("ann", 7)], ("add", "ann", 5), ("is", 12))
        for n in AMOUNTS:
            self.check([("ann", MOST - n)], ("add", "ann", n), ("is", MOST))
            self.check([("ann", MOST - n + 1)], ("add", "ann", n), ("full", MOST - n + 1))
            self.check([("ann", MOST)], ("add", "ann", n), ("full", MOST))
            self.check([("ann", 0)], ("add", "ann", n), ("is", n))
            if n < MOST:
                self.check([("ann", MOST - n - 1)], ("add", "ann", n), ("is", MOST - 1))

    def test_take(self):
        self.check([("ann", 7)], ("take", "ann", 5), ("is", 2))
        for n in AMOUNTS:
            self.check([("ann", n - 1)], ("take", "ann", n), ("short", n - 1))
            self.check([("ann", n)], ("take", "ann", n), ("is", 0))
            self.check([("ann", MOST)], ("take", "ann", n), ("is", MOST - n))
            self.check([("ann", 0)], ("take", "ann", n), ("short", 0))
            if n < MOST:
                self.check([("ann", n + 1)], ("take", "ann", n), ("is", 1))

    def test_move(self):
        self.check([("ann", 7), ("bo", 1)], ("move", "ann", "bo", 5), ("is", 2, 6))
        self.check([("ann", 7), ("bo", 9)], ("move", "bo", "ann", 5), ("is", 4, 12))
        for n in AMOUNTS:
            deed = ("move", "ann", "bo", n)
            self.check([("ann", n - 1), ("bo", 0)], deed, ("short", n - 1))
            self.check([("ann", n), ("bo", 0)], deed, ("is", 0, n))
            self.check([("ann", n), ("bo", MOST - n)], deed, ("is", 0, MOST))
            self.check([("ann", n), ("bo", MOST - n + 1)], deed, ("full", MOST - n + 1))
            if n < MOST:
                self.check([("ann", n + 1), ("bo", 3)], deed, ("is", 1, 3 + n) if n + 3 <= MOST else ("full", 3))
                self.check([("ann", n + 1), ("bo", MOST - n - 1)], deed, ("is", 1, MOST - 1))

    def test_short_ahead_of_full_of_move(self):
        for n in AMOUNTS:
            self.check([("ann", n - 1), ("bo", MOST)], ("move", "ann", "bo", n), ("short", n - 1))
            self.check([("bo", n - 1), ("ann", MOST)], ("move", "bo", "ann", n), ("short", n - 1))
            self.check([("ann", n), ("bo", MOST)], ("move", "ann", "bo", n), ("full", MOST))

    def test_send(self):
        for n in AMOUNTS:
            deed = ("send", "mill", "ann", n)
            self.check([("ann", n - 1)], deed, ("short", n - 1))
            self.check([("ann", 0)], deed, ("short", 0))
            self.check([("ann", n)], deed, None)
            self.check([("ann", MOST)], deed, None)
            if n < MOST:
                self.check([("ann", n + 1)], deed, None)

    def test_fetch(self):
        for n in AMOUNTS:
            deed = ("fetch", "mill", "ann", n)
            self.check([("ann", MOST - n + 1)], deed, ("full", MOST - n + 1))
            self.check([("ann", MOST)], deed, ("full", MOST))
            self.check([("ann", MOST - n)], deed, None)
            self.check([("ann", 0)], deed, None)
            if n < MOST:
                self.check([("ann", MOST - n - 1)], deed, None)

    def test_pass(self):
        for n in AMOUNTS:
            for amount in (0, n - 1, n, MOST):
                self.check([("ann", amount), ("mill", amount)], ("pass", "mill", "inn", "ann", n), None)

    def test_names_that_were_never_told(self):
        self.check([], ("add", "ann", 5), ("is", 5))
        self.check([], ("add", "ann", MOST), ("is", MOST))
        self.check([], ("take", "ann", 1), ("short", 0))
        self.check([("bo", 5)], ("move", "ann", "bo", 5), ("short", 0))
        self.check([("ann", 5)], ("move", "ann", "bo", 5), ("is", 0, 5))
        self.check([], ("send", "mill", "ann", 1), ("short", 0))
        self.check([], ("fetch", "mill", "ann", MOST), None)
        self.check([], ("pass", "mill", "inn", "ann", MOST), None)

    def test_the_house_s_name_is_no_name_here(self):
        self.check([("mill", MOST)], ("send", "mill", "ann", 5), ("short", 0))
        self.check([("mill", 0), ("ann", 5)], ("send", "mill", "ann", 5), None)
        self.check([("mill", MOST)], ("fetch", "mill", "ann", 5), None)
        self.check([("ann", MOST)], ("fetch", "mill", "ann", 5), ("full", MOST))

    def test_by_the_book_as_it_is(self):
        book = Book([("ann", 5)])
        self.assertEqual(early(book, ("take", "ann", 5)), ("is", 0))
        self.assertEqual(early(book, ("take", "ann", 5)), ("is", 0))
        book.change([("ann", -1)])
        self.assertEqual(early(book, ("take", "ann", 5)), ("short", 4))


class Late(unittest.TestCase):

    def check(self, pairs, deed, heard, due):
        book = Book(pairs)
        with self.subTest(pairs=pairs, deed=deed, heard=heard):
            told = late(book, deed, heard)
            self.assertEqual(told, due)
            self.assertIs(type(told), tuple)
            self.assertEqual(book.rows(), sorted(pair for pair in pairs if pair[1] > 0))

    def test_send(self):
        for n in AMOUNTS:
            for amount in (n, MOST):
                self.check([("ann", amount)], ("send", "mill", "ann", n), 0, ("no", "mill"))
                self.check([("ann", amount)], ("send", "mill", "ann", n), 1, ("is", amount - n))
        self.check([("ann", 7), ("mill", 9)], ("send", "mill", "ann", 5), 1, ("is", 2))

    def test_fetch(self):
        for n in AMOUNTS:
            for amount in (0, MOST - n):
                self.check([("ann", amount)], ("fetch", "mill", "ann", n), 0, ("no", "mill"))
                self.check([("ann", amount)], ("fetch", "mill", "ann", n), 1, ("is", amount + n))
        self.check([("ann", 7), ("mill", 9)], ("fetch", "mill", "ann", 5), 1, ("is", 12))
        self.check([], ("fetch", "mill", "ann", 5), 1, ("is", 5))

    def test_pass(self):
        for n in AMOUNTS:
            for pairs in ([], [("ann", MOST), ("mill", 3)]):
                self.check(pairs, ("pass", "mill", "inn", "ann", n), 0, ("no", "mill"))
                self.check(pairs, ("pass", "mill", "inn", "ann", n), 1, ("no", "inn"))
                self.check(pairs, ("pass", "mill", "inn", "ann", n), 2, ("ok",))
        self.check([], ("pass", "inn", "mill", "ann", 5), 0, ("no", "inn"))
        self.check([], ("pass", "inn", "mill", "ann", 5), 1, ("no", "mill"))


class Changes(unittest.TestCase):

    def check(self, deed, answer, due):
        with self.subTest(deed=deed, answer=answer):
            told = changes_of(deed, answer)
            self.assertEqual(told, due)
            self.assertIs(type(told), tuple)
            for pair in told:
                self.assertIs(type(pair), tuple)

    def test_is(self):
        for n in AMOUNTS:
            self.check(("add", "ann", n), ("is", n), (("ann", n),))
            self.check(("add", "ann", n), ("is", MOST), (("ann", n),))
            self.check(("take", "ann", n), ("is", 0), (("ann", -n),))
            self.check(("take", "ann", n), ("is", MOST - n), (("ann", -n),))
            self.check(("move", "ann", "bo", n), ("is", 0, n), (("ann", -n), ("bo", n)))
            self.check(("move", "bo", "ann", n), ("is", 0, MOST), (("bo", -n), ("ann", n)))
            self.check(("send", "mill", "ann", n), ("is", 0), (("ann", -n),))
            self.check(("fetch", "mill", "ann", n), ("is", n), (("ann", n),))

    def test_all_other_answers(self):
        self.check(("add", "ann", 5), ("full", MOST), ())
        self.check(("take", "ann", 5), ("short", 0), ())
        self.check(("move", "ann", "bo", 5), ("short", 4), ())
        self.check(("move", "ann", "bo", 5), ("full", MOST), ())
        self.check(("send", "mill", "ann", 5), ("short", 4), ())
        self.check(("send", "mill", "ann", 5), ("no", "mill"), ())
        self.check(("fetch", "mill", "ann", 5), ("full", MOST), ())
        self.check(("fetch", "mill", "ann", 5), ("no", "mill"), ())
        self.check(("pass", "mill", "inn", "ann", 5), ("no", "mill"), ())
        self.check(("pass", "mill", "inn", "ann", 5), ("no", "inn"), ())
        self.check(("pass", "mill", "inn", "ann", 5), ("ok",), ())

    def test_the_answer_tells_the_amounts_behind_the_change(self):
        pairs = [("ann", 7), ("bo", 1)]
        deeds = (("add", "ann", 5), ("take", "ann", 5), ("move", "ann", "bo", 5), ("move", "bo", "ann", 1))
        for deed in deeds:
            book = Book(pairs)
            answer = early(book, deed)
            book.change(changes_of(deed, answer))
            with self.subTest(deed=deed):
                self.assertEqual(answer, ("is",) + tuple(book.amount(name) for name in deed[1:-1]))
        for deed in (("send", "mill", "ann", 5), ("fetch", "mill", "ann", 5)):
            book = Book(pairs)
            answer = late(book, deed, 1)
            book.change(changes_of(deed, answer))
            with self.subTest(deed=deed):
                self.assertEqual(answer, ("is", book.amount("ann")))


def deeds_of(n):
    """A deed of each word with this amount."""
    return (
        ("add", "ann", n), ("take", "ann", n), ("move", "ann", "bo", n), ("send", "mill", "ann", n),
        ("fetch", "mill", "ann", n), ("pass", "mill", "inn", "ann", n),
    )


def forms_of(deed):
    """Each form of a deed's answers that have numbers: its word, and the least and the greatest of each number."""
    n = deed[-1]
    left, come, short, full = (0, MOST - n), (n, MOST), (0, n - 1), (MOST - n + 1, MOST)
    return {
        "add": (("is", come), ("full", full)),
        "take": (("is", left), ("short", short)),
        "move": (("is", left, come), ("short", short), ("full", full)),
        "send": (("is", left), ("short", short)),
        "fetch": (("is", come), ("full", full)),
        "pass": (),
    }[deed[0]]


class IsAnswer(unittest.TestCase):

    def check(self, deed, thing, due):
        with self.subTest(deed=deed, thing=thing):
            self.assertIs(is_answer(deed, thing), due)

    def each_form(self):
        for n in AMOUNTS:
            for deed in deeds_of(n):
                for word, *bounds in forms_of(deed):
                    yield deed, word, bounds

    def test_numbers_at_both_ends_and_one_beyond_either(self):
        for deed, word, bounds in self.each_form():
            for place, (least, most) in enumerate(bounds):
                for others in range(2):
                    parts = [bound[others] for bound in bounds]
                    for number in (least, most, (least + most) // 2, least - 1, most + 1, -1, MOST + 1, 10 ** 40):
                        thing = (word, *parts[:place], number, *parts[place + 1:])
                        self.check(deed, thing, least <= number <= most)

    def test_other_things_in_a_number_s_place(self):
        others = (
            True, False, None, "", "0", "5", str(MOST), "ann", "mill", 0.0, 1.0, 1e12, float("nan"), [], [5], (), (5,),
            {}, {5}, b"5", object(), 5 + 0j,
        )
        for deed, word, bounds in self.each_form():
            for place in range(len(bounds)):
                for other in others:
                    parts = [bound[0] for bound in bounds]
                    parts[place] = other
                    self.check(deed, (word, *parts), False)

    def test_a_truth_where_its_number_would_do(self):
        self.check(("add", "ann", 1), ("is", 1), True)
        self.check(("add", "ann", 1), ("is", True), False)
        self.check(("take", "ann", 1), ("is", 0), True)
        self.check(("take", "ann", 1), ("is", False), False)
        self.check(("take", "ann", 1), ("short", False), False)
        self.check(("move", "ann", "bo", 1), ("is", 0, 1), True)
        self.check(("move", "ann", "bo", 1), ("is", False, 1), False)
        self.check(("move", "ann", "bo", 1), ("is", 0, True), False)
        self.check(("add", "ann", MOST), ("full", True), False)

    def test_a_number_more_or_less(self):
        for deed, word, bounds in self.each_form():
            parts = tuple(bound[0] for bound in bounds)
            self.check(deed, (word,) + parts, True)
            self.check(deed, (word,) + parts[1:], False)
            self.check(deed, (word,) + parts[:-1], False)
            for more in (0, deed[-1], MOST, None, "mill"):
                self.check(deed, (word,) + parts + (more,), False)
                self.check(deed, (word, more) + parts, False)

    def test_numbers_of_move_exchanged(self):
        self.check(("move", "ann", "bo", 5), ("is", 0, 5), True)
        self.check(("move", "ann", "bo", 5), ("is", 5, 0), False)
        self.check(("move", "ann", "bo", 5), ("is", MOST - 5, MOST), True)
        self.check(("move", "ann", "bo", 5), ("is", MOST, MOST - 5), False)

    def test_a_list_in_place_of_the_tuple(self):
        for deed, word, bounds in self.each_form():
            parts = [bound[0] for bound in bounds]
            self.check(deed, [word] + parts, False)
            self.check(deed, (word, tuple(parts)), False)
            self.check(deed, ((word, *parts),), False)
        self.check(("send", "mill", "ann", 5), ["no", "mill"], False)
        self.check(("pass", "mill", "inn", "ann", 5), ["ok"], False)

    def test_words_that_are_none_of_the_deed_s(self):
        for n in AMOUNTS:
            for deed in deeds_of(n):
                own = [form[0] for form in forms_of(deed)]
                for word in ("is", "short", "full", "ok", "no", "yes", "", "Is", "is ", None, 5, [], {}, ("is",)):
                    if word not in own:
                        for numbers in ((0,), (n,), (n - 1,), (MOST - n,), (MOST - n + 1,), (MOST,), (0, MOST)):
                            self.check(deed, (word,) + numbers, False)

    def test_two_numbers_are_of_move_alone(self):
        for deed in deeds_of(5):
            self.check(deed, ("is", 5, 5), deed[0] == "move")
            self.check(deed, ("is", 5), deed[0] not in ("move", "pass"))

    def test_no_with_the_deed_s_houses_and_with_others(self):
        for deed in deeds_of(5) + deeds_of(MOST):
            houses = [house for house, there in asks_of(deed)]
            for house in ("mill", "inn", "ann", "bo", "a", "millx", "mil"):
                self.check(deed, ("no", house), house in houses)
        self.check(("pass", "ann", "bo", "cy", 5), ("no", "ann"), True)
        self.check(("pass", "ann", "bo", "cy", 5), ("no", "bo"), True)
        self.check(("pass", "ann", "bo", "cy", 5), ("no", "cy"), False)

    def test_no_with_things_that_are_no_houses(self):
        others = ("", "Mill", "mill ", " mill", "mill\n", None, True, 0, 5, b"mill", ["mill"], ("mill",), {"mill"}, {})
        for deed in deeds_of(5):
            for other in others:
                self.check(deed, ("no", other), False)
            self.check(deed, ("no",), False)
            self.check(deed, ("no", "mill", "inn"), False)
            self.check(deed, ("no", "mill", "mill"), False)
            self.check(deed, ("no", "mill", 5), False)

    def test_ok(self):
        for deed in deeds_of(5) + deeds_of(1) + deeds_of(MOST):
            self.check(deed, ("ok",), deed[0] == "pass")
            for thing in (("ok", 0), ("ok", 5), ("ok", "mill"), ("ok", None), ("ok", "ok"), "ok", ["ok"]):
                self.check(deed, thing, False)

    def test_things_of_any_other_kind(self):
        for deed in deeds_of(5):
            for thing in THINGS + (deed, list(deed)):
                self.check(deed, thing, False)

    def test_nothing_that_is_handed_in_is_changed(self):
        thing = ["is", 5]
        is_answer(("add", "ann", 5), thing)
        is_answer(("add", "ann", 5), ("is", thing))
        is_answer(("add", "ann", 5), (thing, thing))
        self.assertEqual(thing, ["is", 5])

    def test_all_that_comes_early_or_late_is_one(self):
        for n in AMOUNTS:
            edges = sorted({0, n - 1, n, min(n + 1, MOST), max(MOST - n - 1, 0), MOST - n, MOST - n + 1, MOST})
            for deed in deeds_of(n):
                for amount in edges:
                    for there in edges:
                        book = Book([("ann", amount), ("bo", there)])
                        answer = early(book, deed)
                        if answer is not None:
                            self.check(deed, answer, True)
                        else:
                            for heard in range(len(asks_of(deed)) + 1):
                                self.check(deed, late(book, deed, heard), True)


if __name__ == "__main__":
    unittest.main()
