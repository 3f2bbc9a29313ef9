"""The door: points 23 to 29, and points 2 and 3 as they hold for it."""

import unittest

from oncedoor.doors import Door
from oncedoor.errors import (
    DoorError, Down, Late, NoDeed, NoHouse, NoKey, NoName, NoNumber, NoWay, Unsafe, Up,
)
from oncedoor.houses import House
from oncedoor.risings import first_odd
from oncedoor.rows import shown_row

MOST = 10 ** 12

ADD = ("add", "ann", 5)
TAKE = ("take", "ann", 3)
MOVE = ("move", "ann", "bo", 2)
SEND = ("send", "mill", "ann", 4)
FETCH = ("fetch", "mill", "bo", 4)
PASS = ("pass", "mill", "inn", "cy", 6)

WAYS = ("through", "lost", "unheard")

THINGS = (
    None, True, False, 0, 1, -1, 1.5, b"bo", [], ["bo"], (), ("bo",), {}, {"bo": 1}, {"bo"}, object(), len, str, "", " ",
    "Bo", "bo ", " bo", "b o", "bo\n", "b-o",
)
NO_NAMES = THINGS + ("bo1", "1", "abcdefghi", "a" * 60000)
NO_KEYS = THINGS + ("K1", "k_1", "abcdefgh12345", "1" * 60000)
NO_DEEDS = THINGS + (
    "add", "add ann 5", ("add",), ("add", "ann"), ("add", "ann", 0), ("add", "ann", -1), ("add", "ann", MOST + 1),
    ("add", "ann", True), ("add", "ann", "5"), ("add", "ann", None), ("add", "Ann", 5), ("add", "ann", "bo", 5),
    ("move", "ann", "ann", 5), ("pass", "mill", "mill", "ann", 5), ("pass", "mill", "ann", 5), ("give", "ann", 5),
    ["add", "ann", 5], (["add"], "ann", 5), ({}, {}, {}), ("add", ["ann"], 5),
)


class Case(unittest.TestCase):

    def setUp(self):
        self.mill = House([("ann", 10), ("bo", 10), ("cy", 10)])
        self.inn = House([("cy", 1)])
        self.houses = [("mill", self.mill), ("inn", self.inn)]

    def made(self, life=10, name="hall"):
        return Door(name, life, self.houses)

    def rich(self, life=10):
        """A door with 20 of ann and 30 of bo, at turn 0, no ask of which is kept any more at turn 100."""
        door = self.made(life)
        self.end(door, 0, "zo", "y1", ("add", "ann", 20))
        self.end(door, 0, "zo", "y2", ("add", "bo", 30))
        return door

    def refused(self, refusal, call, *given):
        with self.subTest(refusal=refusal.__name__, given=given):
            with self.assertRaises(DoorError) as caught:
                call(*given)
            self.assertIs(type(caught.exception), refusal)
            return caught.exception

    def begin(self, door, turn, asker, key, deed):
        told = door.come(turn, asker, key, deed)
        self.assertEqual(told[0], "begun")
        return told[1]

    def stage(self, door, number):
        return {entry[0]: entry[4] for entry in door.under()}[number]

    def work_to(self, door, number, stage):
        """Work on a deed, all ways through, rows made safe where that is waited for, until it is at a stage."""
        for step in range(20):
            if self.stage(door, number) == stage:
                return
            if door.work(number) == ("unsafe",):
                door.force()
        self.fail(f"{number} never came to {stage}")

    def end(self, door, turn, asker, key, deed):
        """Bring an ask to its end, and tell its answer."""
        number = self.begin(door, turn, asker, key, deed)
        self.work_to(door, number, "written")
        return {entry[0]: entry[3] for entry in door.force()}[number]

    def seen(self, door):
        """All that a door tells, and its houses."""
        told = [door.called(), door.rows()]
        told += [(house.rows(), house.kept()) for name, house in self.houses]
        try:
            told += [door.now(), door.book_rows(), door.kept(), door.under()]
        except Down:
            told += ["down"]
        return told


class Made(Case):

    def test_names(self):
        for name in ("a", "z", "hall", "halls", "zzzzz"):
            self.assertEqual(Door(name, 1, []).called(), name)

    def test_no_name(self):
        for name in NO_NAMES + ("abcdef", "abcdefg", "abcdefgh", "hall1", "hall1a"):
            self.refused(NoName, Door, name, 1, [])
            self.refused(NoName, Door, name, 1, self.houses)

    def test_at_first(self):
        door = self.made()
        self.assertEqual(door.called(), "hall")
        self.assertEqual((door.rows(), door.now(), door.book_rows(), door.kept(), door.under()), ([], 0, [], [], []))
        self.assertEqual(door.amount("ann"), 0)
        self.assertEqual(door.force(), [])
        self.refused(Up, door.rise, 0)

    def test_houses_are_the_very_ones(self):
        door = self.made()
        self.assertIs(door.house_of("mill"), self.mill)
        self.assertIs(door.house_of("inn"), self.inn)
        for name in ("ann", "hall", "mil", "mills"):
            self.assertEqual(self.refused(NoHouse, door.house_of, name).house, name)
        door.fall(0)
        self.assertIs(door.house_of("mill"), self.mill)
        self.assertEqual(self.refused(NoHouse, door.house_of, "barn").house, "barn")
        door.rise(0)
        self.assertIs(door.house_of("inn"), self.inn)

    def test_the_list_of_houses_is_copied(self):
        houses = list(self.houses)
        door = Door("hall", 10, houses)
        self.assertEqual(houses, self.houses)
        houses.append(("barn", House()))
        houses[0] = ("mill", House())
        self.assertIs(door.house_of("mill"), self.mill)
        self.refused(NoHouse, door.house_of, "barn")
        self.refused(NoHouse, door.come, 0, "bo", "k1", ("send", "barn", "ann", 1))
        houses.clear()
        self.assertEqual(door.come(0, "bo", "k1", PASS), ("begun", 1))

    def test_without_houses(self):
        door = Door("hall", 10, [])
        self.assertEqual(self.end(door, 0, "bo", "k1", ADD), ("is", 5))
        self.assertEqual(self.refused(NoHouse, door.come, 0, "bo", "k2", SEND).house, "mill")

    def test_two_doors_side_by_side(self):
        one, other = Door("hall", 10, self.houses), Door("halls", 10, self.houses)
        self.assertEqual(one.come(5, "bo", "k1", ADD), ("begun", 1))
        self.assertEqual((other.now(), other.rows(), other.under()), (0, [], []))
        self.assertEqual(other.come(3, "bo", "k1", TAKE), ("begun", 1))
        one.fall(0)
        self.assertEqual(other.now(), 3)


class Came(Case):

    def test_begun(self):
        door = self.made()
        self.assertEqual(door.come(4, "bo", "k1", ADD), ("begun", 1))
        self.assertEqual(door.now(), 4)
        self.assertEqual(door.under(), [(1, "bo", "k1", ADD, "new")])
        self.assertEqual(door.rows(), [("came", 1, 4, "bo", "k1", ADD)])
        self.assertEqual((door.book_rows(), door.kept()), ([], []))

    def test_numbers_from_1_on(self):
        door = self.made()
        for number in range(1, 15):
            self.assertEqual(door.come(number, "bo", f"k{number}", ADD), ("begun", number))
        self.assertEqual([row[1:3] for row in door.rows()], [(number, number) for number in range(1, 15)])

    def test_numbers_go_on_behind_deeds_that_ended(self):
        door = self.made()
        for number in range(1, 5):
            self.end(door, 0, "bo", f"k{number}", ADD)
        self.assertEqual(door.come(0, "bo", "k5", ADD), ("begun", 5))

    def test_busy(self):
        door = self.made()
        door.come(4, "bo", "k1", ADD)
        for turn in (4, 5, 100):
            rows = door.rows()
            self.assertEqual(door.come(turn, "bo", "k1", ADD), ("busy", 1))
            self.assertEqual((door.now(), door.rows(), door.under()), (turn, rows, [(1, "bo", "k1", ADD, "new")]))

    def test_busy_at_each_stage(self):
        for stage in ("new", "held", "asked", "undoing", "heard", "written"):
            self.setUp()
            self.inn.close("cy")
            door = self.rich()
            number = self.begin(door, 5, "bo", "k1", PASS)
            self.work_to(door, number, stage)
            self.assertEqual(door.come(5, "bo", "k1", PASS), ("busy", number))
            self.assertEqual(door.come(5, "bo", "k1", SEND), ("other",))
            self.assertEqual(self.stage(door, number), stage)

    def test_other_where_one_is_under_way(self):
        door = self.made()
        door.come(4, "bo", "k1", ADD)
        for deed in (("add", "ann", 6), ("add", "bo", 5), TAKE, MOVE, SEND, FETCH, PASS):
            self.assertEqual(door.come(7, "bo", "k1", deed), ("other",))
        self.assertEqual((door.now(), len(door.rows())), (7, 1))
        self.assertEqual(door.under(), [(1, "bo", "k1", ADD, "new")])
        self.assertEqual(door.come(7, "bo", "k2", ADD), ("begun", 2))

    def test_kept_and_other_for_a_life(self):
        for life in (1, 3, 10):
            door = self.made(life)
            self.assertEqual(self.end(door, 5, "bo", "k1", ADD), ("is", 5))
            rows = door.rows()
            for turn in (5, 5 + life - 1):
                self.assertEqual(door.come(turn, "bo", "k1", ADD), ("kept", ("is", 5)))
                self.assertEqual(door.come(turn, "bo", "k1", TAKE), ("other",))
                self.assertEqual(door.come(turn, "bo", "k1", ("add", "ann", 6)), ("other",))
                self.assertEqual((door.now(), door.rows(), door.under()), (turn, rows, []))
                self.assertEqual(door.kept(), [(1, 5, "bo", "k1", ADD, ("is", 5))])
            self.assertEqual(door.come(5 + life, "bo", "k1", TAKE), ("begun", 2))
            self.assertEqual(door.kept(), [])
            self.assertEqual(door.book_rows(), [("ann", 5)])

    def test_the_same_deed_behind_its_life(self):
        door = self.made(3)
        self.assertEqual(self.end(door, 5, "bo", "k1", ADD), ("is", 5))
        self.assertEqual(door.come(8, "bo", "k1", ADD), ("begun", 2))
        self.work_to(door, 2, "written")
        self.assertEqual(door.force(), [(2, "bo", "k1", ("is", 10))])
        self.assertEqual(door.come(10, "bo", "k1", ADD), ("kept", ("is", 10)))

    def test_the_turn_moves_behind_each_that_isn_t_refused(self):
        door = self.made(100)
        self.end(door, 1, "bo", "k1", ADD)
        door.come(2, "bo", "k1", ADD)
        self.assertEqual(door.now(), 2)
        door.come(3, "bo", "k1", TAKE)
        self.assertEqual(door.now(), 3)
        door.come(4, "bo", "k2", TAKE)
        self.assertEqual(door.now(), 4)
        door.come(5, "bo", "k2", TAKE)
        self.assertEqual(door.now(), 5)
        door.come(6, "bo", "k2", ADD)
        self.assertEqual(door.now(), 6)
        for key, deed in (("k1", ADD), ("k1", TAKE), ("k2", TAKE), ("k2", ADD), ("k3", ADD)):
            self.refused(Late, door.come, 5, "bo", key, deed)
        self.assertEqual(door.now(), 6)

    def test_askers_and_keys_that_are_beginnings_of_one_another(self):
        door = self.made()
        pairs = (("a", "bc"), ("ab", "c"), ("abc", "a"), ("a", "bca"), ("b", "a"), ("a", "b"))
        for number, (asker, key) in enumerate(pairs, start=1):
            self.assertEqual(door.come(0, asker, key, ADD), ("begun", number))

    def test_no_key(self):
        door = self.rich()
        seen = self.seen(door)
        for asker in NO_NAMES:
            self.refused(NoKey, door.come, 0, asker, "k1", ADD)
        for key in NO_KEYS:
            self.refused(NoKey, door.come, 0, "bo", key, ADD)
        self.assertEqual(self.seen(door), seen)
        self.assertEqual(door.come(0, "abcdefgh", "abcdefgh1234", ADD), ("begun", 3))
        self.assertEqual(door.come(0, "a", "0", ADD), ("begun", 4))

    def test_no_deed(self):
        door = self.rich()
        seen = self.seen(door)
        for deed in NO_DEEDS:
            self.refused(NoDeed, door.come, 0, "bo", "k1", deed)
        self.assertEqual(self.seen(door), seen)

    def test_no_house(self):
        door = self.rich()
        seen = self.seen(door)
        for deed, house in (
            (("send", "barn", "ann", 1), "barn"), (("fetch", "ann", "ann", 1), "ann"),
            (("pass", "barn", "mill", "ann", 1), "barn"), (("pass", "mill", "barn", "ann", 1), "barn"),
            (("pass", "barn", "shed", "ann", 1), "barn"), (("pass", "shed", "barn", "ann", 1), "shed"),
        ):
            self.assertEqual(self.refused(NoHouse, door.come, 0, "bo", "k1", deed).house, house)
        self.assertEqual(self.seen(door), seen)
        # Names of deeds that ask no house are no houses.
        self.assertEqual(door.come(0, "bo", "k1", ("move", "barn", "shed", 1))[0], "begun")

    def test_late(self):
        door = self.rich()
        door.come(7, "bo", "k1", ADD)
        seen = self.seen(door)
        for turn in (0, 5, 6):
            for key, deed in (("k1", ADD), ("k1", TAKE), ("y1", ("add", "ann", 20)), ("k2", PASS)):
                self.refused(Late, door.come, turn, "bo", key, deed)
        self.assertEqual(self.seen(door), seen)
        self.assertEqual(door.come(7, "bo", "k2", PASS)[0], "begun")

    def test_the_order_of_refusals(self):
        door = self.rich()
        door.come(7, "bo", "k1", ADD)
        barn = ("send", "barn", "ann", 1)
        # (turn, asker, key, deed) from all wrong on, one mended at a time.
        asks = (
            (NoKey, 0, "Bo", "K1", None), (NoKey, 0, "bo", "K1", None), (NoKey, 0, "Bo", "k1", None),
            (NoKey, 7, None, "k2", barn), (NoKey, 0, "bo", [], barn), (NoKey, 0, "Bo", "k2", ADD),
            (NoDeed, 0, "bo", "k2", None), (NoDeed, 7, "bo", "k2", ("send", "barn", "ann", 0)),
            (NoHouse, 0, "bo", "k2", barn), (NoHouse, 0, "bo", "k1", barn), (NoHouse, 7, "bo", "k2", barn),
            (Late, 0, "bo", "k2", ADD),
        )
        seen = self.seen(door)
        for refusal, turn, asker, key, deed in asks:
            self.refused(refusal, door.come, turn, asker, key, deed)
        self.assertEqual(self.seen(door), seen)
        door.fall(0)
        for refusal, turn, asker, key, deed in asks + ((None, 7, "bo", "k2", ADD),):
            self.refused(Down, door.come, turn, asker, key, deed)

    def test_great_turns(self):
        door = self.made(MOST)
        self.assertEqual(self.end(door, MOST, "bo", "k1", ADD), ("is", 5))
        self.assertEqual(door.come(MOST, "bo", "k1", ADD), ("kept", ("is", 5)))
        door = self.made(MOST)
        self.end(door, 0, "bo", "k1", ADD)
        self.assertEqual(door.come(MOST - 1, "bo", "k1", ADD), ("kept", ("is", 5)))
        self.assertEqual(door.come(MOST, "bo", "k1", ADD), ("begun", 2))


class Worked(Case):

    def test_a_deed_without_asks(self):
        for deed, answer in (
            (ADD, ("is", 25)), (TAKE, ("is", 17)), (MOVE, ("is", 18, 32)), (("take", "ann", 21), ("short", 20)),
            (("add", "ann", MOST), ("full", 20)), (("move", "ann", "bo", 21), ("short", 20)),
            (("move", "cy", "bo", 1), ("short", 0)),
        ):
            door = self.rich()
            number = self.begin(door, 1, "bo", "k1", deed)
            book, rows = door.book_rows(), door.rows()
            self.assertEqual(door.work(number), ("holds",))
            self.assertEqual((self.stage(door, number), door.rows()), ("held", rows))
            self.assertEqual(door.work(number), ("writes", "done"))
            self.assertEqual(self.stage(door, number), "written")
            self.assertEqual(door.rows(), rows + [("done", number, 1, answer)])
            for step in range(3):
                self.assertEqual(door.work(number), ("unsafe",))
            self.assertEqual(door.book_rows(), book)
            self.assertEqual(self.stage(door, number), "written")
            self.assertEqual(door.force(), [(number, "bo", "k1", answer)])
            self.assertEqual(door.come(1, "bo", "k1", deed), ("kept", answer))

    def test_early_answers_of_deeds_with_asks(self):
        for deed, answer in (
            (("send", "mill", "ann", 21), ("short", 20)), (("fetch", "mill", "ann", MOST), ("full", 20)),
            (("send", "mill", "cy", 1), ("short", 0)),
        ):
            door = self.rich()
            number = self.begin(door, 1, "bo", "k1", deed)
            door.work(number)
            self.assertEqual(door.work(number), ("writes", "done"))
            self.assertEqual(door.rows()[-1], ("done", number, 1, answer))
            self.assertEqual(door.force(), [(number, "bo", "k1", answer)])
            self.assertEqual(self.mill.kept(), [])

    def test_a_deed_that_asks_one_house(self):
        for deed, answer, there in (
            (SEND, ("is", 16), ("ann", 14)), (FETCH, ("is", 34), ("bo", 6)),
            (("send", "mill", "ann", 20), ("is", 0), ("ann", 30)), (("fetch", "mill", "bo", 10), ("is", 40), ("bo", 0)),
        ):
            self.setUp()
            door = self.rich()
            number = self.begin(door, 1, "bo", "k1", deed)
            self.assertEqual(door.work(number), ("holds",))
            rows = door.rows()
            self.assertEqual(door.work(number), ("writes", "asked"))
            self.assertEqual(door.rows(), rows + [("asked", number)])
            for step in range(3):
                self.assertEqual(door.work(number), ("unsafe",))
            self.assertEqual((self.stage(door, number), self.mill.kept()), ("asked", []))
            self.assertEqual(door.force(), [])
            self.assertEqual((self.stage(door, number), self.mill.kept()), ("asked", []))
            self.assertEqual(door.work(number), ("hears", "mill", "yes"))
            self.assertEqual(self.mill.amount(there[0]), there[1])
            self.assertEqual([entry[0] for entry in self.mill.kept()], [f"hall{number}a"])
            self.assertEqual(self.stage(door, number), "heard")
            self.assertEqual(door.work(number), ("writes", "done"))
            self.assertEqual(door.rows()[-1], ("done", number, 1, answer))
            self.assertEqual(door.work(number), ("unsafe",))
            self.assertEqual(door.force(), [(number, "bo", "k1", answer)])
            self.assertEqual(door.amount(deed[2]), answer[1])

    def test_one_house_that_tells_no(self):
        self.mill.close("ann")
        for deed in (SEND, ("fetch", "mill", "bo", 11)):
            door = self.rich()
            book, mill = door.book_rows(), self.mill.rows()
            number = self.begin(door, 1, "bo", "k1", deed)
            self.work_to(door, number, "asked")
            door.force()
            self.assertEqual(door.work(number), ("hears", "mill", "no"))
            self.assertEqual(self.stage(door, number), "heard")
            self.assertEqual(door.work(number), ("writes", "done"))
            self.assertEqual(door.force(), [(number, "bo", "k1", ("no", "mill"))])
            self.assertEqual((door.book_rows(), self.mill.rows()), (book, mill))
            self.setUp()
            self.mill.close("ann")

    def asked_pass(self, deed=PASS):
        """A door with the pass deed of number 3 whose asked row is safe."""
        door = self.rich()
        number = self.begin(door, 1, "bo", "k1", deed)
        self.work_to(door, number, "asked")
        door.force()
        return door

    def test_pass_yes_yes(self):
        door = self.asked_pass()
        self.assertEqual(door.work(3), ("hears", "mill", "yes"))
        self.assertEqual((self.stage(door, 3), self.mill.amount("cy"), self.inn.amount("cy")), ("asked", 4, 1))
        self.assertEqual(door.work(3), ("hears", "inn", "yes"))
        self.assertEqual((self.stage(door, 3), self.mill.amount("cy"), self.inn.amount("cy")), ("heard", 4, 7))
        self.assertEqual(self.mill.kept(), [("hall3a", ("take", "cy", 6), "yes")])
        self.assertEqual(self.inn.kept(), [("hall3b", ("add", "cy", 6), "yes")])
        self.assertEqual(door.work(3), ("writes", "done"))
        self.assertEqual(door.force(), [(3, "bo", "k1", ("ok",))])
        self.assertEqual(door.book_rows(), [("ann", 20), ("bo", 30)])

    def test_pass_no_at_the_first(self):
        door = self.asked_pass(("pass", "mill", "inn", "cy", 11))
        self.assertEqual(door.work(3), ("hears", "mill", "no"))
        self.assertEqual((self.stage(door, 3), self.inn.kept()), ("heard", []))
        self.assertEqual(door.work(3), ("writes", "done"))
        self.assertEqual(door.force(), [(3, "bo", "k1", ("no", "mill"))])
        self.assertEqual(self.mill.kept(), [("hall3a", ("take", "cy", 11), "no")])
        self.assertEqual(self.inn.kept(), [])

    def test_pass_no_at_the_second(self):
        self.inn.close("cy")
        door = self.asked_pass()
        self.assertEqual(door.work(3), ("hears", "mill", "yes"))
        self.assertEqual(door.work(3), ("hears", "inn", "no"))
        self.assertEqual((self.stage(door, 3), self.mill.amount("cy")), ("undoing", 4))
        self.assertEqual(door.work(3), ("undoes", "mill"))
        self.assertEqual((self.stage(door, 3), self.mill.amount("cy"), self.inn.amount("cy")), ("heard", 10, 1))
        self.assertEqual(door.work(3), ("writes", "done"))
        self.assertEqual(door.force(), [(3, "bo", "k1", ("no", "inn"))])
        self.assertEqual(self.mill.kept(), [("hall3a", ("take", "cy", 6), "undone")])
        self.assertEqual(self.inn.kept(), [("hall3b", ("add", "cy", 6), "no")])

    def test_pass_undone_at_the_first(self):
        self.mill.undo("hall3a")
        door = self.asked_pass()
        self.assertEqual(door.work(3), ("hears", "mill", "undone"))
        self.assertEqual(self.stage(door, 3), "asked")
        self.assertEqual(door.work(3), ("hears", "inn", "yes"))
        self.assertEqual(self.stage(door, 3), "heard")
        door.work(3)
        self.assertEqual(door.force(), [(3, "bo", "k1", ("ok",))])

    def test_pass_undone_at_the_first_and_no_at_the_second(self):
        self.mill.undo("hall3a")
        self.inn.close("cy")
        door = self.asked_pass()
        self.assertEqual(door.work(3), ("hears", "mill", "undone"))
        self.assertEqual(door.work(3), ("hears", "inn", "no"))
        self.assertEqual(door.work(3), ("undoes", "mill"))
        door.work(3)
        self.assertEqual(door.force(), [(3, "bo", "k1", ("no", "inn"))])
        self.assertEqual(self.mill.amount("cy"), 10)

    def test_pass_undone_at_the_second(self):
        self.inn.undo("hall3b")
        door = self.asked_pass()
        self.assertEqual(door.work(3), ("hears", "mill", "yes"))
        self.assertEqual(door.work(3), ("hears", "inn", "undone"))
        self.assertEqual(self.stage(door, 3), "heard")
        door.work(3)
        self.assertEqual(door.force(), [(3, "bo", "k1", ("ok",))])

    def test_undone_at_one_house(self):
        for deed, answer in ((SEND, ("is", 16)), (FETCH, ("is", 34))):
            self.setUp()
            self.mill.undo("hall3a")
            door = self.asked_pass(deed)
            self.assertEqual(door.work(3), ("hears", "mill", "undone"))
            self.assertEqual(self.stage(door, 3), "heard")
            door.work(3)
            self.assertEqual(door.force(), [(3, "bo", "k1", answer)])

    def test_done_rows_have_the_door_s_turn(self):
        door = self.rich()
        one = self.begin(door, 1, "bo", "k1", ADD)
        two = self.begin(door, 2, "bo", "k2", PASS)
        self.work_to(door, two, "heard")
        door.come(6, "bo", "k1", ADD)
        door.work(one)
        door.work(one)
        door.come(8, "bo", "k1", TAKE)
        door.work(two)
        self.assertEqual(door.rows()[-2:], [("done", one, 6, ("is", 25)), ("done", two, 8, ("ok",))])
        self.assertIsNone(first_odd(door.rows()))

    def test_no_number(self):
        door = self.rich()
        number = self.begin(door, 1, "bo", "k1", PASS)
        seen = self.seen(door)
        for other in (0, -1, -number, 1, 2, number + 1, 10 ** 6, MOST, -MOST, 10 ** 40):
            self.refused(NoNumber, door.work, other)
            for way in WAYS + ("", "gone"):
                self.refused(NoNumber, door.work, other, way)
        self.assertEqual(self.seen(door), seen)
        self.work_to(door, number, "written")
        door.force()
        self.refused(NoNumber, door.work, number)

    def test_no_way(self):
        for stage in ("new", "held", "asked", "undoing", "heard", "written"):
            self.setUp()
            self.inn.close("cy")
            door = self.rich()
            number = self.begin(door, 1, "bo", "k1", PASS)
            self.work_to(door, number, stage)
            seen = self.seen(door)
            for way in ("", " ", "Through", "through ", "los", "heard", "unheard\n", "lost unheard"):
                self.refused(NoWay, door.work, number, way)
            self.assertEqual(self.seen(door), seen)

    def test_the_order_of_refusals(self):
        door = self.rich()
        number = self.begin(door, 1, "bo", "k1", PASS)
        self.refused(NoNumber, door.work, 77, "gone")
        self.refused(NoWay, door.work, number, "gone")
        door.fall(0)
        self.refused(Down, door.work, 77, "gone")
        self.refused(Down, door.work, number, "gone")
        self.refused(Down, door.work, number)
        self.refused(Down, door.work, 77)


class Held(Case):

    def test_waits(self):
        door = self.rich()
        one = self.begin(door, 0, "bo", "k1", ADD)
        two = self.begin(door, 0, "bo", "k2", TAKE)
        self.assertEqual(door.work(two), ("holds",))
        seen = self.seen(door)
        for way in WAYS:
            self.assertEqual(door.work(one, way), ("waits", two))
        self.assertEqual(self.seen(door), seen)
        for step in range(3):
            door.work(two)
            self.assertEqual(door.work(one), ("waits", two))
        self.assertEqual(self.stage(door, one), "new")
        door.force()
        self.assertEqual(door.work(one), ("holds",))
        self.assertEqual(door.work(one), ("writes", "done"))
        self.assertEqual(door.rows()[-1], ("done", one, 0, ("is", 22)))

    def test_new_ones_hold_nothing(self):
        door = self.rich()
        numbers = [self.begin(door, 0, "bo", f"k{place}", ADD) for place in range(3)]
        self.assertEqual(door.work(numbers[2]), ("holds",))
        self.assertEqual(door.work(numbers[0]), ("waits", numbers[2]))
        self.assertEqual(door.work(numbers[1]), ("waits", numbers[2]))

    def test_the_least_number_of_those_that_hold(self):
        door = self.rich()
        move = self.begin(door, 0, "bo", "k1", MOVE)
        others = [self.begin(door, 0, "bo", f"l{place}", ("add", name, 1)) for place, name in enumerate(("bo", "ann", "cy"))]
        for number in reversed(others):
            self.assertEqual(door.work(number), ("holds",))
        self.assertEqual(door.work(move), ("waits", others[0]))
        door.work(others[0])
        door.force()
        self.assertEqual(door.work(move), ("waits", others[1]))
        door.work(others[1])
        self.assertEqual(door.work(move), ("waits", others[1]))
        door.force()
        self.assertEqual(door.work(move), ("holds",))
        # One that holds both is told once, whichever name another one touches.
        late = [self.begin(door, 0, "bo", f"m{place}", ("add", name, 1)) for place, name in enumerate(("bo", "ann"))]
        for number in late:
            self.assertEqual(door.work(number), ("waits", move))

    def test_names_that_are_touched(self):
        deeds = {
            ADD: {"ann"}, TAKE: {"ann"}, MOVE: {"ann", "bo"}, SEND: {"ann"}, FETCH: {"bo"}, PASS: set(),
            ("pass", "mill", "inn", "ann", 1): set(), ("send", "mill", "bo", 1): {"bo"}, ("add", "mill", 1): {"mill"},
        }
        for one in deeds:
            for two in deeds:
                with self.subTest(one=one, two=two):
                    self.setUp()
                    door = self.rich()
                    first = self.begin(door, 0, "bo", "k1", one)
                    second = self.begin(door, 0, "bo", "k2", two)
                    self.assertEqual(door.work(first), ("holds",))
                    told = ("waits", first) if deeds[one] & deeds[two] else ("holds",)
                    self.assertEqual(door.work(second), told)

    def test_names_are_held_till_the_end_by_force(self):
        door = self.rich()
        send = self.begin(door, 0, "bo", "k1", SEND)
        add = self.begin(door, 0, "bo", "k2", ADD)
        for step in range(20):
            told = door.work(send)
            self.assertEqual(door.work(add), ("waits", send))
            if told == ("unsafe",):
                if self.stage(door, send) == "written":
                    break
                door.force()
        self.assertEqual(door.force(), [(send, "bo", "k1", ("is", 16))])
        self.assertEqual(door.work(add), ("holds",))

    def test_an_early_answer_holds_too(self):
        door = self.rich()
        short = self.begin(door, 0, "bo", "k1", ("take", "ann", 21))
        other = self.begin(door, 0, "bo", "k2", TAKE)
        door.work(short)
        door.work(short)
        self.assertEqual(door.work(other), ("waits", short))
        door.force()
        self.assertEqual(door.work(other), ("holds",))


class Ways(Case):

    def test_other_steps_are_the_same_with_each_way(self):
        told = {}
        for way in WAYS:
            self.setUp()
            door = self.rich()
            self.begin(door, 0, "bo", "k1", SEND)
            self.begin(door, 0, "bo", "k2", ADD)
            told[way] = [door.work(3, way), door.work(4, way), door.work(3, way), door.work(3, way)]
            door.force()
            door.work(3)
            told[way] += [door.work(3, way), door.work(3, way), door.rows()]
        self.assertEqual(told["through"][:6], [
            ("holds",), ("waits", 3), ("writes", "asked"), ("unsafe",), ("writes", "done"), ("unsafe",),
        ])
        self.assertEqual(told["lost"], told["through"])
        self.assertEqual(told["unheard"], told["through"])

    def asked(self, deed):
        door = self.rich()
        number = self.begin(door, 1, "bo", "k1", deed)
        self.work_to(door, number, "asked")
        door.force()
        return door

    def test_lost_at_asking(self):
        door = self.asked(SEND)
        seen = self.seen(door)
        for step in range(3):
            self.assertEqual(door.work(3, "lost"), ("silent", "mill"))
        self.assertEqual(self.seen(door), seen)
        self.assertEqual(door.work(3, "through"), ("hears", "mill", "yes"))

    def test_unheard_at_asking(self):
        door = self.asked(SEND)
        for step in range(3):
            self.assertEqual(door.work(3, "unheard"), ("silent", "mill"))
            self.assertEqual(self.mill.kept(), [("hall3a", ("add", "ann", 4), "yes")])
            self.assertEqual((self.stage(door, 3), self.mill.amount("ann")), ("asked", 14))
        self.assertEqual(door.work(3, "lost"), ("silent", "mill"))
        self.assertEqual(door.work(3), ("hears", "mill", "yes"))
        self.assertEqual(self.mill.amount("ann"), 14)

    def test_unheard_no_stays_no(self):
        self.mill.close("ann")
        door = self.asked(SEND)
        self.assertEqual(door.work(3, "unheard"), ("silent", "mill"))
        self.mill.reopen("ann")
        self.assertEqual(door.work(3), ("hears", "mill", "no"))
        self.assertEqual(self.mill.amount("ann"), 10)

    def test_lost_no_may_become_yes(self):
        self.mill.close("ann")
        door = self.asked(SEND)
        self.assertEqual(door.work(3, "lost"), ("silent", "mill"))
        self.mill.reopen("ann")
        self.assertEqual(door.work(3), ("hears", "mill", "yes"))

    def test_at_the_second_place_of_pass(self):
        door = self.asked(PASS)
        door.work(3)
        for way in ("lost", "unheard", "lost", "unheard"):
            self.assertEqual(door.work(3, way), ("silent", "inn"))
            self.assertEqual(self.stage(door, 3), "asked")
        self.assertEqual(self.inn.kept(), [("hall3b", ("add", "cy", 6), "yes")])
        self.assertEqual(self.mill.kept(), [("hall3a", ("take", "cy", 6), "yes")])
        self.assertEqual(door.work(3), ("hears", "inn", "yes"))

    def test_at_undoing(self):
        self.inn.close("cy")
        door = self.asked(PASS)
        door.work(3)
        door.work(3)
        self.assertEqual(self.stage(door, 3), "undoing")
        self.assertEqual(door.work(3, "lost"), ("silent", "mill"))
        self.assertEqual((self.stage(door, 3), self.mill.amount("cy")), ("undoing", 4))
        for step in range(3):
            self.assertEqual(door.work(3, "unheard"), ("silent", "mill"))
            self.assertEqual((self.stage(door, 3), self.mill.amount("cy")), ("undoing", 10))
        self.assertEqual(door.work(3, "lost"), ("silent", "mill"))
        self.assertEqual(door.work(3, "through"), ("undoes", "mill"))
        self.assertEqual((self.stage(door, 3), self.mill.amount("cy")), ("heard", 10))


class Forced(Case):

    def test_in_the_order_of_done_rows(self):
        door = self.rich()
        numbers = [self.begin(door, place, "bo", f"k{place}", ("add", name, 1)) for place, name in enumerate("abcd")]
        for number in (numbers[2], numbers[0], numbers[3]):
            door.work(number)
            door.work(number)
        told = door.force()
        self.assertEqual(told, [
            (numbers[2], "bo", "k2", ("is", 1)), (numbers[0], "bo", "k0", ("is", 1)), (numbers[3], "bo", "k3", ("is", 1)),
        ])
        self.assertIs(type(told), list)
        self.assertEqual([entry[0] for entry in door.under()], [numbers[1]])
        self.assertEqual(door.book_rows(), [("a", 1), ("ann", 20), ("bo", 30), ("c", 1), ("d", 1)])
        self.assertEqual(door.force(), [])

    def test_only_what_became_safe(self):
        door = self.rich()
        one = self.begin(door, 0, "bo", "k1", ADD)
        two = self.begin(door, 0, "bo", "k2", ("add", "bo", 1))
        self.assertEqual(door.force(), [])
        door.work(one)
        door.work(one)
        self.assertEqual(door.force(), [(one, "bo", "k1", ("is", 25))])
        door.work(two)
        self.assertEqual(door.force(), [])
        door.work(two)
        self.assertEqual(door.force(), [(two, "bo", "k2", ("is", 31))])
        self.assertEqual(door.force(), [])

    def test_book_and_keys_change_at_the_force(self):
        door = self.rich()
        number = self.begin(door, 1, "bo", "k1", MOVE)
        self.work_to(door, number, "written")
        self.assertEqual((door.book_rows(), len(door.kept())), ([("ann", 20), ("bo", 30)], 2))
        self.assertEqual(door.amount("bo"), 30)
        door.force()
        self.assertEqual(door.book_rows(), [("ann", 18), ("bo", 32)])
        self.assertEqual((door.amount("ann"), door.amount("bo"), door.amount("cy")), (18, 32, 0))
        self.assertEqual(door.kept()[2:], [(number, 1, "bo", "k1", MOVE, ("is", 18, 32))])
        self.assertEqual(door.under(), [])

    def test_a_life_counts_from_the_row_s_turn(self):
        door = self.rich(3)
        number = self.begin(door, 5, "bo", "k1", ADD)
        self.work_to(door, number, "written")
        self.assertEqual(door.come(7, "bo", "k1", ADD), ("busy", number))
        self.assertEqual(door.force(), [(number, "bo", "k1", ("is", 25))])
        self.assertEqual(door.kept(), [(number, 5, "bo", "k1", ADD, ("is", 25))])
        self.assertEqual(door.come(7, "bo", "k1", ADD), ("kept", ("is", 25)))
        self.assertEqual(door.come(8, "bo", "k1", ADD)[0], "begun")

    def test_a_life_that_is_over_when_force_comes_late(self):
        door = self.rich(3)
        number = self.begin(door, 5, "bo", "k1", ADD)
        self.work_to(door, number, "written")
        self.assertEqual(door.come(8, "bo", "k1", ADD), ("busy", number))
        self.assertEqual(door.force(), [(number, "bo", "k1", ("is", 25))])
        self.assertEqual((door.kept(), door.book_rows()), ([], [("ann", 25), ("bo", 30)]))
        self.assertEqual(door.come(8, "bo", "k1", ADD), ("begun", number + 1))

    def test_down(self):
        door = self.rich()
        door.fall(0)
        self.refused(Down, door.force)

    def test_told_lists_are_the_asker_s_own(self):
        door = self.rich(100)
        number = self.begin(door, 1, "bo", "k1", ADD)
        other = self.begin(door, 1, "bo", "k2", ADD)
        self.work_to(door, number, "written")
        told = [door.force(), door.kept(), door.under(), door.rows(), door.book_rows()]
        copies = [list(part) for part in told]
        self.work_to(door, other, "written")
        door.force()
        self.assertEqual(told, copies)
        seen = self.seen(door)
        for part in (door.force(), door.kept(), door.under(), door.rows(), door.book_rows()):
            part.clear()
            part.append("x")
        self.assertEqual(self.seen(door), seen)
        door.fall(0)
        rows = door.rows()
        door.rows().clear()
        self.assertEqual(door.rows(), rows)
        door.rise(2).append("x")
        self.assertEqual(door.under(), [])


class Fallen(Case):

    def test_down(self):
        door = self.rich()
        rows = door.rows()
        self.assertIsNone(door.fall(0))
        for call in (door.now, door.book_rows, door.kept, door.under, door.force, door.fold):
            self.refused(Down, call)
        self.refused(Down, door.amount, "ann")
        for more in (0, 1, 10 ** 9):
            self.refused(Down, door.fall, more)
        self.refused(Down, door.come, 0, "bo", "k1", ADD)
        self.refused(Down, door.work, 1)
        self.assertEqual((door.called(), door.rows()), ("hall", rows))
        self.assertIs(door.house_of("mill"), self.mill)

    def test_up(self):
        door = self.rich()
        seen = self.seen(door)
        for turn in (0, 1, MOST):
            self.refused(Up, door.rise, turn)
        self.assertEqual(self.seen(door), seen)
        door.fall(0)
        door.rise(5)
        self.refused(Up, door.rise, 0)
        self.refused(Up, door.rise, 6)

    def test_late(self):
        door = self.rich()
        self.end(door, 7, "bo", "k1", ADD)
        door.come(9, "bo", "k1", ADD)
        door.fall(0)
        rows = door.rows()
        for turn in (0, 6):
            self.refused(Late, door.rise, turn)
            self.refused(Down, door.now)
        self.assertEqual(door.rows(), rows)
        self.assertEqual(door.rise(7), [])
        self.assertEqual(door.now(), 7)

    def test_a_rising_at_the_same_and_a_later_turn(self):
        for turn in (7, 8, 16, 17, MOST):
            door = self.rich()
            self.end(door, 7, "bo", "k1", ADD)
            door.fall(0)
            self.assertEqual(door.rise(turn), [])
            self.assertEqual(door.now(), turn)
            self.assertEqual(door.book_rows(), [("ann", 25), ("bo", 30)])
            told = ("kept", ("is", 25)) if turn < 17 else ("begun", 4)
            self.assertEqual(door.come(turn, "bo", "k1", ADD), told)
            self.refused(Late, door.come, turn - 1, "bo", "k9", ADD)

    def test_the_empty_journal(self):
        door = self.made()
        door.come(5, "bo", "k1", ADD)
        door.fall(0)
        self.assertEqual(door.rows(), [])
        self.assertEqual(door.rise(0), [])
        self.assertEqual((door.now(), door.under(), door.kept(), door.book_rows()), (0, [], [], []))
        self.assertEqual(door.come(5, "bo", "k1", ADD), ("begun", 1))

    def test_any_number_of_signs(self):
        def draft():
            self.setUp()
            door = self.rich(100)
            one, two = self.begin(door, 1, "bo", "k1", ADD), self.begin(door, 2, "bo", "k2", FETCH)
            door.force()
            three = self.begin(door, 3, "bo", "k3", PASS)
            for number in (one, two, three, one, two, three):
                door.work(number)
            return door
        lines = [shown_row(row) + "\n" for row in draft().rows()]
        safe = 6
        signs = "".join(lines[safe:])
        self.assertEqual([line.split(" ")[0] for line in lines[safe:]], ["came", "done", "asked", "asked"])
        for more in list(range(len(signs) + 3)) + [10 ** 6]:
            with self.subTest(more=more):
                door = draft()
                rows = door.rows()
                door.fall(more)
                stays = signs[:more].count("\n")
                self.assertEqual(door.rows(), rows[:safe + stays])
                numbers = [[], [], [], [4], [4, 5]][stays]
                self.assertEqual(door.rise(3), numbers)
                self.assertEqual(door.book_rows(), [("ann", 25 if stays >= 2 else 20), ("bo", 30)])
                self.assertEqual(len(door.kept()), 3 if stays >= 2 else 2)
                self.assertEqual([entry[4] for entry in door.under()], ["asked"] * len(numbers))
                told = ("kept", ("is", 25)) if stays >= 2 else ("begun", 5 + (stays > 0))
                self.assertEqual(door.come(3, "bo", "k1", ADD), told)
                self.assertEqual(door.work(4) if 4 in numbers else None, ("hears", "mill", "yes") if 4 in numbers else None)

    def test_all_others_are_as_never_begun(self):
        door = self.rich(100)
        deeds = {"k1": ADD, "k2": ("add", "cy", 1), "k3": ("take", "bo", 1), "k4": ("add", "dan", 1)}
        numbers = [self.begin(door, 1, "bo", key, deed) for key, deed in deeds.items()]
        for number, steps in zip(numbers, (0, 1, 2, 2)):
            for step in range(steps):
                door.work(number)
        # The done row of the last but one stays, that of the last one doesn't.
        text = [shown_row(row) + "\n" for row in door.rows()[4:]]
        door.fall(len("".join(text[:5])))
        self.assertEqual([row[0] for row in door.rows()[4:]], ["came"] * 4 + ["done"])
        self.assertEqual(door.rise(1), [])
        self.assertEqual(door.under(), [])
        self.assertEqual(door.book_rows(), [("ann", 20), ("bo", 29)])
        for number in numbers:
            self.refused(NoNumber, door.work, number)
        self.assertEqual(door.come(1, "bo", "k3", deeds["k3"]), ("kept", ("is", 29)))
        for place, key in enumerate(("k1", "k2", "k4"), start=7):
            self.assertEqual(door.come(1, "bo", key, deeds[key]), ("begun", place))
            self.assertEqual(door.work(place), ("holds",))
        self.assertIsNone(first_odd(door.rows()))

    def test_keys_are_as_they_were_ahead(self):
        # Under the key of one that is lost an answer lived once: it is over all the same.
        door = self.rich(3)
        self.end(door, 5, "bo", "k1", ADD)
        self.assertEqual(door.come(8, "bo", "k1", TAKE), ("begun", 4))
        door.force()
        door.fall(0)
        self.assertEqual(door.rise(8), [])
        self.assertEqual(door.kept(), [])
        self.assertEqual(door.come(8, "bo", "k1", MOVE), ("begun", 5))

    def test_a_later_answer_in_the_place_of_an_earlier_one(self):
        door = self.rich(3)
        self.end(door, 5, "bo", "k1", ADD)
        self.end(door, 8, "bo", "k1", TAKE)
        door.fall(0)
        door.rise(9)
        self.assertEqual(door.kept(), [(4, 8, "bo", "k1", TAKE, ("is", 22))])
        self.assertEqual(door.come(9, "bo", "k1", TAKE), ("kept", ("is", 22)))
        self.assertEqual(door.come(9, "bo", "k1", ADD), ("other",))

    def test_open_ones_hold_their_names(self):
        door = self.rich(100)
        send = self.begin(door, 1, "bo", "k1", SEND)
        fetch = self.begin(door, 1, "bo", "k2", FETCH)
        for number in (fetch, send):
            self.work_to(door, number, "asked")
        door.force()
        door.fall(0)
        self.assertEqual(door.rise(2), [send, fetch])
        self.assertEqual(door.under(), [(send, "bo", "k1", SEND, "asked"), (fetch, "bo", "k2", FETCH, "asked")])
        self.assertEqual(door.come(2, "bo", "k1", SEND), ("busy", send))
        self.assertEqual(door.come(2, "bo", "k2", ADD), ("other",))
        one = self.begin(door, 2, "bo", "k3", ADD)
        two = self.begin(door, 2, "bo", "k4", ("take", "bo", 1))
        three = self.begin(door, 2, "bo", "k5", MOVE)
        self.assertEqual([door.work(number) for number in (one, two, three)], [
            ("waits", send), ("waits", fetch), ("waits", send),
        ])
        for number in (send, fetch):
            self.assertEqual(door.work(number), ("hears", "mill", "yes"))
            self.assertEqual(door.work(number), ("writes", "done"))
        self.assertEqual(door.force(), [(send, "bo", "k1", ("is", 16)), (fetch, "bo", "k2", ("is", 34))])
        self.assertEqual([door.work(number) for number in (one, two, three)], [("holds",), ("holds",), ("waits", one)])

    def test_open_ones_from_their_first_ask_on(self):
        self.inn.close("cy")
        told = {
            0: [("hears", "mill", "yes"), ("hears", "inn", "no"), ("undoes", "mill")],
            1: [("hears", "mill", "yes"), ("hears", "inn", "no"), ("undoes", "mill")],
            2: [("hears", "mill", "yes"), ("hears", "inn", "no"), ("undoes", "mill")],
            3: [("hears", "mill", "undone"), ("hears", "inn", "no"), ("undoes", "mill")],
            4: [("hears", "mill", "undone"), ("hears", "inn", "no"), ("undoes", "mill")],
        }
        for steps in told:
            with self.subTest(steps=steps):
                self.setUp()
                self.inn.close("cy")
                door = self.rich(100)
                self.begin(door, 1, "bo", "k1", PASS)
                self.work_to(door, 3, "asked")
                door.force()
                for step in range(steps):
                    door.work(3)
                # A name that is open meanwhile changes nothing where the house was asked before.
                if steps >= 2:
                    self.inn.reopen("cy")
                door.fall(0)
                self.assertEqual(door.rise(2), [3])
                self.assertEqual([door.work(3) for step in range(3)], told[steps])
                self.assertEqual(door.work(3), ("writes", "done"))
                self.assertEqual(door.force(), [(3, "bo", "k1", ("no", "inn"))])
                self.assertEqual((self.mill.amount("cy"), self.inn.amount("cy")), (10, 1))

    def test_falls_amid_a_pass_that_goes_through(self):
        for steps in range(4):
            self.setUp()
            door = self.rich(100)
            self.begin(door, 1, "bo", "k1", PASS)
            self.work_to(door, 3, "asked")
            door.force()
            for step in range(steps):
                door.work(3)
            door.fall(0)
            self.assertEqual(door.rise(2), [3])
            self.assertEqual([door.work(3) for step in range(3)], [
                ("hears", "mill", "yes"), ("hears", "inn", "yes"), ("writes", "done"),
            ])
            self.assertEqual(door.force(), [(3, "bo", "k1", ("ok",))])
            self.assertEqual((self.mill.amount("cy"), self.inn.amount("cy")), (4, 7))

    def test_an_asked_row_that_stays_is_safe(self):
        door = self.rich(100)
        send = self.begin(door, 1, "bo", "k1", SEND)
        door.work(send)
        door.work(send)
        self.assertEqual(door.work(send), ("unsafe",))
        door.fall(10 ** 6)
        self.assertEqual(door.rise(1), [send])
        self.assertEqual(door.work(send), ("hears", "mill", "yes"))

    def test_numbers_go_on(self):
        door = self.rich()
        for key in ("k1", "k2", "k3"):
            door.come(1, "bo", key, ADD)
        door.force()
        door.come(1, "bo", "k4", ADD)
        door.fall(0)
        door.rise(1)
        self.assertEqual(door.come(1, "bo", "k4", ADD), ("begun", 6))
        door.fall(10 ** 6)
        door.rise(1)
        self.assertEqual(door.come(1, "bo", "k4", ADD), ("begun", 7))

    def test_falls_one_behind_the_other(self):
        door = self.rich(100)
        for turn in range(1, 6):
            number = self.begin(door, turn, "bo", f"k{turn}", SEND)
            self.work_to(door, number, "asked")
            door.force()
            door.fall(turn)
            self.assertEqual(door.rise(turn), [number])
            door.fall(0)
            self.assertEqual(door.rise(turn), [number])
            self.work_to(door, number, "written")
            door.force()
            door.fall(0)
            self.assertEqual(door.rise(turn), [])
        self.assertEqual((door.amount("ann"), self.mill.amount("ann")), (0, 30))
        self.assertIsNone(first_odd(door.rows()))

    def test_houses_stay(self):
        door = self.rich(100)
        send = self.begin(door, 1, "bo", "k1", SEND)
        self.work_to(door, send, "heard")
        seen = (self.mill.rows(), self.mill.kept())
        door.fall(0)
        door.rise(1)
        self.assertEqual((self.mill.rows(), self.mill.kept()), seen)


class Folded(Case):

    def test_down_and_unsafe(self):
        door = self.rich()
        door.come(1, "bo", "k1", ADD)
        seen = self.seen(door)
        self.refused(Unsafe, door.fold)
        self.assertEqual(self.seen(door), seen)
        door.force()
        self.assertIsNone(door.fold())
        door.work(3)
        self.assertIsNone(door.fold())
        door.work(3)
        self.refused(Unsafe, door.fold)
        door.fall(0)
        self.refused(Down, door.fold)

    def test_the_empty_journal(self):
        door = self.made()
        door.fold()
        self.assertEqual(door.rows(), [("next", 1, 0)])
        self.assertEqual((door.now(), door.under(), door.kept(), door.book_rows()), (0, [], [], []))
        self.assertEqual(door.come(3, "bo", "k1", ADD), ("begun", 1))

    def test_the_rows(self):
        door = self.rich(5)
        self.end(door, 4, "bo", "k1", MOVE)
        one = self.begin(door, 5, "bo", "k2", PASS)
        self.work_to(door, one, "asked")
        two = self.begin(door, 6, "bo", "k3", ADD)
        door.force()
        door.come(7, "bo", "k1", MOVE)
        door.fold()
        self.assertEqual(door.rows(), [
            ("next", 6, 7), ("has", "ann", 18), ("has", "bo", 32), ("kept", 3, 4, "bo", "k1", MOVE, ("is", 18, 32)),
            ("came", one, 7, "bo", "k2", PASS), ("asked", one), ("came", two, 7, "bo", "k3", ADD),
        ])
        door.fold()
        self.assertEqual(len(door.rows()), 7)

    def test_all_rows_are_safe(self):
        door = self.rich()
        number = self.begin(door, 1, "bo", "k1", SEND)
        self.work_to(door, number, "asked")
        door.force()
        door.fold()
        rows = door.rows()
        self.assertEqual(door.work(number), ("hears", "mill", "yes"))
        door.fall(0)
        self.assertEqual(door.rows(), rows)

    def test_lost_came_rows_go(self):
        door = self.rich(100)
        door.come(1, "bo", "k1", ADD)
        door.force()
        door.fall(0)
        door.rise(1)
        door.fold()
        self.assertEqual([row[0] for row in door.rows()], ["next", "has", "has", "kept", "kept"])
        self.assertEqual(door.rows()[0], ("next", 4, 1))
        self.assertEqual(door.come(1, "bo", "k1", ADD), ("begun", 4))

    def test_a_rising_below_its_turn_is_late(self):
        door = self.rich(100)
        door.come(1, "bo", "k1", ADD)
        door.force()
        door.come(9, "bo", "k1", ADD)
        door.fold()
        door.fall(0)
        self.refused(Late, door.rise, 8)
        self.assertEqual(door.rise(9), [])

    def stages(self, folds):
        """All that is told on a way through each stage, with a fold wherever one may be, or without any."""
        self.setUp()
        self.inn.close("cy")
        door = self.rich(4)
        told = []

        def fold():
            if folds:
                before = self.seen(door)
                try:
                    door.fold()
                except Unsafe:
                    pass
                behind = self.seen(door)
                self.assertEqual(before[:1] + before[2:], behind[:1] + behind[2:])
                self.assertIsNone(first_odd(door.rows()))

        asks = (
            (1, "k1", PASS), (1, "k2", SEND), (2, "k3", MOVE), (3, "k4", FETCH), (3, "k1", PASS), (4, "k2", ADD),
            (6, "k3", MOVE), (8, "k4", FETCH), (9, "k5", TAKE), (9, "k1", PASS), (12, "k2", SEND),
        )
        for turn, key, deed in asks:
            told.append(door.come(turn, "bo", key, deed))
            fold()
            for step in range(4):
                for entry in door.under():
                    told.append(door.work(entry[0], ("through", "lost", "unheard", "through")[(step + turn) % 4]))
                    fold()
                told.append(door.force())
                fold()
            if turn % 3 == 0:
                door.fall(7 * turn)
                told.append(door.rise(turn))
                fold()
            told.append(self.seen(door)[2:])
        return told

    def test_nothing_else_is_another_one_for_it(self):
        self.assertEqual(self.stages(True), self.stages(False))

    def test_falls_and_risings_behind_it(self):
        for stage in ("new", "held", "asked", "undoing", "heard"):
            with self.subTest(stage=stage):
                self.setUp()
                self.inn.close("cy")
                door = self.rich(100)
                number = self.begin(door, 1, "bo", "k1", PASS)
                self.work_to(door, number, stage)
                door.force()
                door.fold()
                self.assertEqual(self.stage(door, number), stage)
                door.fall(0)
                still = [] if stage in ("new", "held") else [number]
                self.assertEqual(door.rise(1), still)
                self.assertEqual([entry[4] for entry in door.under()], ["asked"] * len(still))
                self.assertEqual(door.book_rows(), [("ann", 20), ("bo", 30)])
                self.assertEqual(door.come(1, "zo", "y1", ("add", "ann", 20)), ("kept", ("is", 20)))
                told = ("busy", number) if still else ("begun", number + 1)
                self.assertEqual(door.come(1, "bo", "k1", PASS), told)

    def test_deeds_go_on_behind_it(self):
        for stage in ("new", "held", "asked", "undoing", "heard"):
            self.setUp()
            self.inn.close("cy")
            door = self.rich(100)
            number = self.begin(door, 1, "bo", "k1", PASS)
            self.work_to(door, number, stage)
            door.force()
            door.fold()
            self.work_to(door, number, "written")
            self.assertEqual(door.force(), [(number, "bo", "k1", ("no", "inn"))])
            self.assertEqual((self.mill.amount("cy"), self.inn.amount("cy")), (10, 1))
            self.assertIsNone(first_odd(door.rows()))


class Great(Case):

    def test_three_hundred_deeds(self):
        door = self.made(5)
        for number in range(1, 301):
            self.assertEqual(door.come(number, "bo", f"k{number % 7}", ("add", "ann", number)), ("begun", number))
            self.work_to(door, number, "written")
            door.force()
        self.assertEqual(door.amount("ann"), 300 * 301 // 2)
        self.assertEqual([entry[0] for entry in door.kept()], [296, 297, 298, 299, 300])
        door.fall(0)
        self.assertEqual(door.rise(300), [])
        self.assertEqual(door.amount("ann"), 300 * 301 // 2)

    def test_sixty_under_way(self):
        door = self.made()
        for number in range(1, 61):
            self.assertEqual(door.come(0, "bo", f"k{number}", ("add", "ann", 1)), ("begun", number))
        for number in range(60, 0, -1):
            self.assertEqual(door.work(number), ("holds",))
            for other in range(1, number):
                self.assertEqual(door.work(other), ("waits", number))
            self.work_to(door, number, "written")
            self.assertEqual(len(door.force()), 1)
        self.assertEqual(door.book_rows(), [("ann", 60)])

    def test_the_greatest_amount(self):
        door = self.made()
        self.assertEqual(self.end(door, 0, "bo", "k1", ("add", "ann", MOST)), ("is", MOST))
        self.assertEqual(self.end(door, 0, "bo", "k2", ("add", "ann", 1)), ("full", MOST))
        self.assertEqual(self.end(door, 0, "bo", "k3", ("take", "ann", MOST)), ("is", 0))


if __name__ == "__main__":
    unittest.main()
