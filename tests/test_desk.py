"""The desk: point 33 and its lines."""

import unittest

from oncedoor.desk import Desk
from oncedoor.doors import Door
from oncedoor.errors import (
    DoorError, Down, Late, NoDeed, NoHouse, NoKey, NoLine, NoNumber, Unsafe, Up,
)
from oncedoor.houses import House

MOST = 10 ** 12


class Case(unittest.TestCase):

    def setUp(self):
        self.mill = House([("ann", 10), ("cy", 10)])
        self.inn = House()
        self.door = Door("hall", 10, [("mill", self.mill), ("inn", self.inn)])
        self.desk = Desk(self.door)

    def says(self, line, answer):
        with self.subTest(line=line):
            told = self.desk.say(line)
            self.assertEqual(told, answer)
            self.assertIs(type(told), str)

    def talk(self, *lines):
        """Lines and answers by turns."""
        for line, answer in zip(lines[::2], lines[1::2]):
            self.says(line, answer)

    def refused(self, refusal, line):
        with self.subTest(refusal=refusal.__name__, line=line):
            with self.assertRaises(DoorError) as caught:
                self.desk.say(line)
            self.assertIs(type(caught.exception), refusal)
            return caught.exception

    def seen(self):
        told = [self.door.rows(), self.mill.rows(), self.mill.kept(), self.inn.rows(), self.inn.kept()]
        try:
            told += [self.door.now(), self.door.book_rows(), self.door.kept(), self.door.under()]
        except Down:
            told += ["down"]
        return told


class Said(Case):

    def test_come_work_force(self):
        self.talk(
            "come 0 bo k1 add ann 5", "begun 1",
            "come 1 bo k1 add ann 5", "busy 1",
            "come 2 bo k1 add ann 6", "other",
            "come 2 bo k2 take ann 3", "begun 2",
            "work 1", "holds",
            "work 2", "waits 1",
            "work 1 lost", "writes done",
            "work 1 unheard", "unsafe",
            "force", "1 bo k1 is 5",
            "force", "-",
            "come 3 bo k1 add ann 5", "kept is 5",
            "come 3 bo k1 move ann bo 5", "other",
        )
        self.assertEqual(self.door.now(), 3)

    def test_each_kind_of_answer(self):
        steps = (
            ("add ann 5", "is 5"), ("add ann 1000000000000", "full 5"), ("take ann 6", "short 5"), ("take ann 1", "is 4"),
            ("move ann bo 3", "is 1 3"), ("send mill ann 1", "is 0"), ("fetch mill ann 2", "is 2"),
            ("fetch inn ann 1", "no inn"), ("pass mill inn cy 4", "ok"), ("pass inn mill bo 4", "no inn"),
        )
        for number, (deed, answer) in enumerate(steps, start=1):
            self.says(f"come 0 bo k{number} {deed}", f"begun {number}")
            for step in range(8):
                if self.door.under()[0][4] == "written":
                    break
                if self.desk.say(f"work {number}") == "unsafe":
                    self.says("force", "-")
            self.says("force", f"{number} bo k{number} {answer}")
            self.says(f"come 0 bo k{number} {deed}", f"kept {answer}")

    def test_pass_step_by_step(self):
        self.inn.close("cy")
        self.talk(
            "come 0 bo k1 pass mill inn cy 4", "begun 1",
            "work 1", "holds",
            "work 1", "writes asked",
            "work 1", "unsafe",
            "work 1 lost", "unsafe",
            "force", "-",
            "work 1 lost", "silent mill",
            "work 1 unheard", "silent mill",
            "house mill", "ann 10, cy 6",
            "work 1", "hears mill yes",
            "under", "1 bo k1 asked",
            "work 1 lost", "silent inn",
            "work 1", "hears inn no",
            "under", "1 bo k1 undoing",
            "work 1 lost", "silent mill",
            "work 1 unheard", "silent mill",
            "house mill", "ann 10, cy 10",
            "work 1", "undoes mill",
            "under", "1 bo k1 heard",
            "work 1", "writes done",
            "under", "1 bo k1 written",
            "force", "1 bo k1 no inn",
            "under", "-",
            "look", "right",
        )

    def test_undone_is_heard(self):
        self.inn.close("cy")
        self.talk("come 0 bo k1 pass mill inn cy 4", "begun 1", "work 1", "holds", "work 1", "writes asked", "force", "-")
        self.talk("work 1", "hears mill yes", "work 1", "hears inn no", "work 1", "undoes mill")
        self.talk("fall 0", "ok", "rise 0", "1", "work 1", "hears mill undone", "work 1", "hears inn no")

    def test_force_of_several(self):
        for number, name in enumerate(("ann", "bo", "cy"), start=1):
            self.says(f"come 0 dan k{number} add {name} {number}", f"begun {number}")
        for number in (2, 3, 1):
            self.talk(f"work {number}", "holds", f"work {number}", "writes done")
        self.says("force", "2 dan k2 is 2; 3 dan k3 is 3; 1 dan k1 is 1")
        self.says("book", "ann 1, bo 2, cy 3")

    def test_under_of_several(self):
        self.says("under", "-")
        self.talk("come 0 bo k1 add ann 5", "begun 1", "come 0 cy k1 take ann 5", "begun 2", "work 2", "holds")
        self.says("under", "1 bo k1 new; 2 cy k1 held")

    def test_book(self):
        self.says("book", "-")
        self.talk("come 0 bo k1 add ann 1000000000000", "begun 1", "work 1", "holds", "work 1", "writes done")
        self.says("book", "-")
        self.says("force", "1 bo k1 is 1000000000000")
        self.says("book", "ann 1000000000000")

    def test_house(self):
        self.says("house mill", "ann 10, cy 10")
        self.says("house inn", "-")

    def test_amounts_of_a_house_below_0_and_above_the_bound(self):
        self.inn.ask("x1", ("add", "ann", 5))
        self.inn.ask("x2", ("take", "ann", 5))
        self.inn.undo("x1")
        self.says("house inn", "ann -5")
        self.inn.ask("x3", ("add", "bo", MOST))
        self.inn.ask("x4", ("take", "bo", MOST))
        self.inn.ask("x5", ("add", "bo", MOST))
        self.inn.undo("x4")
        self.says("house inn", "ann -5, bo 2000000000000")
        for number in range(6, 15):
            self.inn.undo(f"x{number}")
        for step in range(20):
            self.inn.ask(f"y{step}", ("take", "bo", MOST))
            self.inn.ask(f"z{step}", ("add", "bo", MOST))
        for step in range(20):
            self.inn.undo(f"y{step}")
        self.says("house inn", f"ann -5, bo {self.inn.amount('bo')}")
        self.assertGreater(self.inn.amount("bo"), 10 ** 13)

    def test_close_and_reopen(self):
        self.talk(
            "close mill ann", "ok", "close mill ann", "ok", "close inn zo", "ok", "reopen inn ann", "ok",
        )
        self.assertEqual(self.mill.ask("x1", ("add", "ann", 1)), "no")
        self.assertEqual(self.inn.ask("x1", ("add", "ann", 1)), "yes")
        self.says("reopen mill ann", "ok")
        self.assertEqual(self.mill.ask("x2", ("add", "ann", 1)), "yes")
        self.assertEqual(self.inn.ask("x2", ("add", "zo", 1)), "no")

    def test_fall_and_rise(self):
        self.talk(
            "come 4 bo k1 send mill ann 1", "begun 1", "work 1", "holds", "work 1", "writes done", "force", "1 bo k1 short 0",
            "come 5 bo k2 fetch mill ann 2", "begun 2", "come 5 bo k3 pass mill inn cy 3", "begun 3",
            "come 5 bo k4 add bo 1", "begun 4",
        )
        for number in (3, 2):
            self.talk(f"work {number}", "holds", f"work {number}", "writes asked")
        self.talk("force", "-", "fall 0", "ok", "rise 6", "2 3", "under", "2 bo k2 asked; 3 bo k3 asked")
        self.assertEqual(self.door.now(), 6)
        self.talk("come 6 bo k4 add bo 1", "begun 5", "fall 5", "ok", "rise 6", "2 3")
        self.talk("come 6 bo k4 add bo 1", "begun 5", "fall 9999999999999", "ok", "rise 6", "2 3")
        self.talk("come 6 bo k4 add bo 1", "begun 6")

    def test_rise_of_none(self):
        self.talk("fall 0", "ok", "rise 0", "-")

    def test_fold(self):
        self.talk("come 4 bo k1 add ann 1", "begun 1", "force", "-", "fold", "ok")
        self.assertEqual(self.door.rows(), [("next", 2, 4), ("came", 1, 4, "bo", "k1", ("add", "ann", 1))])
        self.says("fold", "ok")

    def test_look(self):
        self.says("look", "right")
        self.talk("come 4 bo k1 add ann 1", "begun 1", "work 1", "holds", "work 1", "writes done")
        self.says("look", "right")
        self.says("fall 0", "ok")
        self.says("look", "right")

    def test_look_at_rows_that_are_wrong(self):
        class Rows:
            def __init__(self, rows):
                self.told = rows

            def rows(self):
                return list(self.told)

        came = ("came", 1, 0, "bo", "k1", ("add", "ann", 1))
        desk = Desk(Rows([came, ("done", 1, 0, ("is", 2))]))
        self.assertEqual(desk.say("look"), "wrong 1")
        desk = Desk(Rows([("next", 1, 0), ("has", "ann", 5), came, ("done", 1, 0, ("is", 5))]))
        self.assertEqual(desk.say("look"), "wrong 3")

    def test_the_door_is_the_very_one(self):
        self.door.come(0, "bo", "k1", ("add", "ann", 5))
        self.says("come 0 bo k1 add ann 5", "busy 1")
        self.says("work 1", "holds")
        self.assertEqual(self.door.under()[0][4], "held")

    def test_two_desks_of_one_door(self):
        other = Desk(self.door)
        self.assertEqual(other.say("come 0 bo k1 add ann 5"), "begun 1")
        self.says("under", "1 bo k1 new")

    def test_turns_and_numbers_of_many_figures(self):
        self.says("come 1000000000000 bo k1 add ann 5", "begun 1")
        self.assertEqual(self.door.now(), MOST)
        self.refused(NoNumber, "work 9999999999999")
        self.refused(NoNumber, "work 0")


NO_NUMBERS = ("", "-1", "+1", "01", "00", "1.5", "x", "1x", "x1", "12345678901234", "1_0", "1\n", "\n1", "one", "0x1")

NO_LINES = (
    # First words.
    "", " ", "  ", "x", "Come 0 bo k1 add ann 5", "COME 0 bo k1 add ann 5", " come 0 bo k1 add ann 5", "comes 0 bo k1 add ann 5",
    "com 0 bo k1 add ann 5", " book", "books", "Book", "book\n", "\nbook", "0", "add ann 5", "kept", "rows", "turn", "-",
    "now", "help",
    # Too few or too many words.
    "come", "come 0", "come 0 bo", "come 0 bo k1", "come ", "come 0 ", "come 0 bo ", "work", "work 1 lost x", "work 1 lost ",
    "work 1 lost unheard", "force 1", "force ", "fall", "fall 0 0", "fall 0 ", "fold 1", "fold ", "rise", "rise 0 0",
    "rise 0 ", "book 1", "book ", "book ann", "house", "house mill inn", "house mill ", "under 1", "under ", "close",
    "close mill", "close mill ann bo", "close mill ann ", "close  mill ann", "reopen", "reopen mill", "reopen mill ann bo",
    "reopen mill ann ", "reopen  mill ann", "look 1", "look ", "force  ", "work  1 lost",
    # The third word of work.
    "work 1 through", "work 1 Lost", "work 1 ", "work 1 los", "work 1 losts", "work 1 heard", "work 1 unheard\n", "work 1 1",
    # No names.
    "close mill Ann", "close mill ", "close mill a1", "close mill abcdefghi", "close mill 1", "close mill ann\n",
    "reopen mill Ann", "reopen mill ", "reopen mill a1", "reopen mill abcdefghi", "reopen mill 1", "reopen barn Ann",
    "close barn 1", "close  ",
    # Blanks side by side.
    "come  0 bo k1 add ann 5", "work  1", "work  ", "fall  0", "fall  ", "rise  0", "rise  ", "house  mill",
) + tuple(
    line.replace("NO", number) for number in NO_NUMBERS
    for line in ("come NO bo k1 add ann 5", "come NO Bo K1 x", "work NO", "work NO lost", "fall NO", "rise NO")
)


class NoLines(Case):

    def test_up(self):
        self.says("come 5 bo k1 send mill ann 5", "begun 1")
        seen = self.seen()
        for line in NO_LINES:
            self.refused(NoLine, line)
        self.assertEqual(self.seen(), seen)

    def test_down(self):
        self.says("come 5 bo k1 send mill ann 5", "begun 1")
        self.says("fall 100", "ok")
        seen = self.seen()
        for line in NO_LINES:
            self.refused(NoLine, line)
        self.assertEqual(self.seen(), seen)


class Refused(Case):

    def test_come(self):
        self.says("come 5 bo k1 add ann 5", "begun 1")
        seen = self.seen()
        for line in (
            "come 5 Bo k2 add ann 5", "come 5 bo K2 add ann 5", "come 5  k2 add ann 5", "come 5 bo  add ann 5",
            "come 5 bo1 k2 add ann 5", "come 5 abcdefghi k2 add ann 5", "come 5 bo abcdefgh12345 add ann 5",
            "come 0 Bo K2 x", "come 0 Bo k2 send barn ann 5", "come 5 bo\n k2 add ann 5", "come 5   add ann 5",
        ):
            self.refused(NoKey, line)
        for line in (
            "come 5 bo k2 x", "come 5 bo k2 ", "come 5 bo k2 add", "come 5 bo k2 add ann", "come 5 bo k2 add ann 0",
            "come 5 bo k2 add ann 05", "come 5 bo k2 add ann -5", "come 5 bo k2 add ann 5 ", "come 5 bo k2  add ann 5",
            "come 5 bo k2 add  ann 5", "come 5 bo k2 add ann  5", "come 5 bo k2 add Ann 5", "come 5 bo k2 move ann ann 5",
            "come 5 bo k2 pass mill mill ann 5", "come 5 bo k2 add ann 1000000000001", "come 5 bo k2 add ann 5 5",
            "come 0 bo k2 send barn ann 0", "come 0 bo k2 x", "come 5 bo k2 add ann 5\n", "come 5 bo k2 give ann 5",
            "come 5 bo k2 add ann bo 5", "come 5 bo k2    ", "come 5 bo k1 x",
        ):
            self.refused(NoDeed, line)
        for line, house in (
            ("come 5 bo k2 send barn ann 5", "barn"), ("come 0 bo k2 send barn ann 5", "barn"),
            ("come 0 bo k2 pass mill barn ann 5", "barn"), ("come 0 bo k2 pass shed barn ann 5", "shed"),
        ):
            self.assertEqual(self.refused(NoHouse, line).house, house)
        for line in ("come 4 bo k2 add ann 5", "come 0 bo k1 add ann 5", "come 0 bo k1 add ann 6", "come 4 bo k2 send mill ann 5"):
            self.refused(Late, line)
        self.assertEqual(self.seen(), seen)

    def test_work(self):
        self.says("come 5 bo k1 add ann 5", "begun 1")
        for line in ("work 0", "work 2", "work 2 lost", "work 9999999999999 unheard"):
            self.refused(NoNumber, line)

    def test_no_house(self):
        for word in ("barn", "", "Mill", "mill1", "mil", "mill\n", "1", "abcdefghijklmnop"):
            for line in (f"house {word}", f"close {word} ann", f"reopen {word} ann"):
                self.assertEqual(self.refused(NoHouse, line).house, word)

    def test_fold(self):
        self.says("come 5 bo k1 add ann 5", "begun 1")
        self.refused(Unsafe, "fold")

    def test_rise(self):
        self.refused(Up, "rise 0")
        self.talk("come 5 bo k1 add ann 5", "begun 1", "force", "-", "fall 0", "ok")
        self.refused(Late, "rise 4")
        self.says("rise 5", "-")
        self.refused(Up, "rise 4")

    def test_down(self):
        self.talk("come 5 bo k1 add ann 5", "begun 1", "force", "-", "fall 0", "ok")
        for line in (
            "come 5 bo k1 add ann 5", "come 5 Bo K1 x", "come 0 bo k1 x", "come 0 bo k1 send barn ann 5", "work 1", "work 0",
            "work 1 lost", "force", "fall 0", "fall 5", "fold", "book", "under",
        ):
            self.refused(Down, line)
        self.talk("house mill", "ann 10, cy 10", "house inn", "-", "close mill ann", "ok", "reopen mill ann", "ok", "look", "right")
        self.refused(NoHouse, "house barn")
        self.refused(NoHouse, "close barn ann")
        self.says("rise 5", "-")
        self.says("book", "-")


if __name__ == "__main__":
    unittest.main()
