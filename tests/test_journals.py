"""The journal: point 17, and point 2 as it holds for it."""

import unittest

from oncedoor.errors import DoorError, NoJournal
from oncedoor.journals import Journal

MOST = 10 ** 12

ROWS = (
    ("next", 4, 17),
    ("has", "ann", 5),
    ("kept", 2, 9, "bo", "k1", ("move", "ann", "bo", 5), ("is", 0, 5)),
    ("came", 4, 18, "bo", "k2", ("pass", "mill", "inn", "ann", MOST)),
    ("asked", 4),
    ("done", 4, 19, ("no", "inn")),
)
LINES = (
    "next 4 17\n",
    "has ann 5\n",
    "kept 2 9 bo k1 move ann bo 5 = is 0 5\n",
    "came 4 18 bo k2 pass mill inn ann 1000000000000\n",
    "asked 4\n",
    "done 4 19 no inn\n",
)


class Case(unittest.TestCase):

    def holds(self, journal, count, safe):
        """The journal has the first of ROWS, this many of them, and so many of these are safe."""
        self.assertEqual(journal.rows(), list(ROWS[:count]))
        self.assertEqual(journal.text(), "".join(LINES[:count]))
        self.assertEqual(journal.safe(), safe)


class Made(Case):

    def test_of_no_text(self):
        for journal in (Journal(), Journal(""), Journal(text="")):
            self.holds(journal, 0, 0)
            self.assertIs(type(journal.rows()), list)

    def test_of_a_text(self):
        for count in range(len(ROWS) + 1):
            self.holds(Journal("".join(LINES[:count])), count, count)

    def test_of_a_torn_end(self):
        for count in range(len(ROWS) + 1):
            for torn in ("x", " ", "=", "nex", "next 4", "next 4 17", "kept 2 9 bo", "no row at all", "asked 0"):
                with self.subTest(count=count, torn=torn):
                    self.holds(Journal("".join(LINES[:count]) + torn), count, count)

    def test_of_a_text_cut_anywhere(self):
        text = "".join(LINES)
        for signs in range(len(text) + 1):
            with self.subTest(signs=signs):
                count = text[:signs].count("\n")
                self.holds(Journal(text[:signs]), count, count)

    def test_of_the_same_row_twice(self):
        journal = Journal("asked 4\nasked 4\n")
        self.assertEqual(journal.rows(), [("asked", 4), ("asked", 4)])
        self.assertEqual(journal.safe(), 2)

    def test_of_what_another_told(self):
        journal = Journal()
        for row in ROWS:
            journal.write(row)
        self.holds(Journal(journal.text()), len(ROWS), len(ROWS))
        self.holds(journal, len(ROWS), 0)

    def test_of_a_long_text(self):
        text = "".join(f"came {number} 5 bo k{number} take ann 5\n" for number in range(1, 6000))
        journal = Journal(text + "came 6000 5 b")
        self.assertEqual(journal.text(), text)
        self.assertEqual(journal.safe(), 5999)


class Refused(Case):

    def refused(self, text, line):
        with self.subTest(text=text):
            with self.assertRaises(DoorError) as caught:
                Journal(text)
            self.assertIs(type(caught.exception), NoJournal)
            self.assertEqual(caught.exception.line, line)
            self.assertIs(type(caught.exception.line), int)

    def test_a_line_that_is_no_row_s(self):
        for wrong in ("", " ", "asked", "asked 0", "asked 4 ", " asked 4", "asked  4", "next 4", "x", "done 4 19 full 0"):
            for place in range(len(LINES) + 1):
                lines = LINES[:place] + (wrong + "\n",) + LINES[place:]
                self.refused("".join(lines), place)
                self.refused("".join(lines) + "torn", place)

    def test_the_first_such_line(self):
        self.refused("asked 4\nx\nasked 4\ny\n", 1)
        self.refused("x\ny\n", 0)
        self.refused("asked 4\nasked 5\nx\n\n", 2)

    def test_lines_without_signs(self):
        self.refused("\n", 0)
        self.refused("\n\n", 0)
        self.refused("\nasked 4\n", 0)
        self.refused("asked 4\n\n", 1)
        self.refused("asked 4\n\nasked 5\n", 1)
        self.refused("asked 4\n\ntorn", 1)


class Written(Case):

    def test_write_force_safe(self):
        journal = Journal()
        for count in range(1, len(ROWS) + 1):
            self.assertIsNone(journal.write(ROWS[count - 1]))
            self.holds(journal, count, count - 1)
            self.assertIsNone(journal.force())
            self.holds(journal, count, count)

    def test_several_at_once(self):
        journal = Journal(LINES[0])
        for row in ROWS[1:4]:
            journal.write(row)
        self.holds(journal, 4, 1)
        journal.force()
        self.holds(journal, 4, 4)
        journal.force()
        self.holds(journal, 4, 4)
        journal.write(ROWS[4])
        self.holds(journal, 5, 4)

    def test_nothing_to_force(self):
        journal = Journal()
        journal.force()
        self.holds(journal, 0, 0)

    def test_which_rows_are_safe(self):
        journal = Journal(LINES[0])
        journal.write(ROWS[1])
        self.assertEqual([journal.is_safe(row) for row in ROWS[:3]], [True, False, False])
        journal.force()
        self.assertEqual([journal.is_safe(row) for row in ROWS[:3]], [True, True, False])

    def test_behind_a_torn_end(self):
        journal = Journal(LINES[0] + "has an")
        journal.write(ROWS[1])
        self.holds(journal, 2, 1)

    def test_told_lists_are_the_asker_s_own(self):
        journal = Journal(LINES[0])
        told = journal.rows()
        journal.write(ROWS[1])
        self.assertEqual(told, [ROWS[0]])
        told.append(("asked", 9))
        journal.rows().clear()
        self.holds(journal, 2, 1)
        journal.force()
        journal.rows().append(("asked", 9))
        journal.fall(0)
        journal.rows().append(("asked", 9))
        self.holds(journal, 2, 2)

    def test_two_journals_side_by_side(self):
        for one, other in ((Journal(), Journal()), (Journal(""), Journal(""))):
            one.write(ROWS[0])
            one.force()
            self.holds(one, 1, 1)
            self.holds(other, 0, 0)


class Fallen(Case):

    def journal(self, safe, count):
        """A journal of the first of ROWS, so many of them safe."""
        journal = Journal()
        for row in ROWS[:safe]:
            journal.write(row)
        journal.force()
        for row in ROWS[safe:count]:
            journal.write(row)
        return journal

    def test_of_each_number_of_signs(self):
        for count in range(len(ROWS) + 1):
            for safe in range(count + 1):
                signs = "".join(LINES[safe:count])
                for more in range(len(signs) + 5):
                    with self.subTest(count=count, safe=safe, more=more):
                        journal = self.journal(safe, count)
                        self.assertIsNone(journal.fall(more))
                        stays = safe + signs[:more].count("\n")
                        self.holds(journal, stays, stays)

    def test_about_a_line_end(self):
        journal = self.journal(1, 3)
        journal.fall(len(LINES[1]) - 1)
        self.holds(journal, 1, 1)
        journal = self.journal(1, 3)
        journal.fall(len(LINES[1]))
        self.holds(journal, 2, 2)
        journal = self.journal(1, 3)
        journal.fall(len(LINES[1]) + 1)
        self.holds(journal, 2, 2)

    def test_a_torn_line_is_not_passed_over(self):
        journal = Journal()
        for row in (ROWS[3], ("asked", 4), ("asked", 4)):
            journal.write(row)
        journal.fall(len(LINES[3]) - 1)
        self.assertEqual(journal.rows(), [])

    def test_of_many_more_signs(self):
        for more in (10 ** 3, MOST, 10 ** 40):
            journal = self.journal(2, 5)
            journal.fall(more)
            self.holds(journal, 5, 5)

    def test_where_all_is_safe(self):
        for more in (0, 1, 100):
            journal = self.journal(4, 4)
            journal.fall(more)
            self.holds(journal, 4, 4)

    def test_of_an_empty_journal(self):
        for more in (0, 1, 100):
            journal = Journal()
            journal.fall(more)
            self.holds(journal, 0, 0)

    def test_what_stays_is_safe(self):
        journal = self.journal(1, 5)
        journal.fall(len(LINES[1]) + 3)
        self.holds(journal, 2, 2)
        journal.fall(0)
        self.holds(journal, 2, 2)
        journal.write(ROWS[2])
        self.holds(journal, 3, 2)
        journal.fall(0)
        self.holds(journal, 2, 2)
        journal.write(ROWS[2])
        journal.write(ROWS[3])
        journal.force()
        self.holds(journal, 4, 4)

    def test_signs_that_it_was_made_with_stay(self):
        for torn in ("", "torn", "has ann 5"):
            journal = Journal(LINES[0] + torn)
            journal.fall(0)
            self.holds(journal, 1, 1)
            journal.write(ROWS[1])
            journal.fall(len(LINES[1]) - 1)
            self.holds(journal, 1, 1)

    def test_told_lists_stay_behind_a_fall(self):
        journal = self.journal(1, 4)
        told = journal.rows()
        journal.fall(0)
        self.assertEqual(told, list(ROWS[:4]))
        told.clear()
        self.holds(journal, 1, 1)


if __name__ == "__main__":
    unittest.main()
