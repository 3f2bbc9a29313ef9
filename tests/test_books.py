"""The book: point 8, and points 2 and 3 as they hold for it."""

import unittest

from oncedoor.books import Book
from oncedoor.errors import DoorError, NoChange

MOST = 10 ** 12


class Told(unittest.TestCase):

    def test_an_empty_book(self):
        for book in (Book(), Book(None), Book([]), Book(rows=None), Book(rows=[])):
            self.assertEqual(book.rows(), [])
            self.assertIs(type(book.rows()), list)
            self.assertEqual(book.amount("ann"), 0)

    def test_amounts_told_and_never_told(self):
        book = Book([("bo", 3), ("ann", 5), ("cy", 0), ("dee", MOST)])
        told = [book.amount(name) for name in ("ann", "bo", "cy", "dee", "eve")]
        self.assertEqual(told, [5, 3, 0, MOST, 0])

    def test_asking_for_an_amount_changes_nothing(self):
        book = Book([("bo", 3)])
        book.amount("ann")
        self.assertEqual(book.rows(), [("bo", 3)])

    def test_rows_by_names_of_those_above_nought(self):
        book = Book([("bo", 3), ("cy", 0), ("b", 1), ("ann", 5), ("boa", MOST), ("a", 0)])
        self.assertEqual(book.rows(), [("ann", 5), ("b", 1), ("bo", 3), ("boa", MOST)])

    def test_rows_are_pairs(self):
        for row in Book([("bo", 3), ("ann", 5)]).rows():
            self.assertIs(type(row), tuple)

    def test_many_names(self):
        names = [one + other for one in "zyxwvutsrqponmlkjihgfedcba" for other in "qwertzuiopasdfghjklyxcvbnm"]
        pairs = [(name, place) for place, name in enumerate(names)]
        self.assertEqual(Book(pairs).rows(), sorted(pairs[1:]))


class Kept(unittest.TestCase):

    def test_a_list_handed_in_is_copied(self):
        pairs = [("bo", 3), ("ann", 5)]
        book = Book(pairs)
        self.assertEqual(pairs, [("bo", 3), ("ann", 5)])
        pairs.append(("cy", 7))
        pairs[0] = ("bo", 9)
        self.assertEqual(book.rows(), [("ann", 5), ("bo", 3)])
        self.assertEqual(book.amount("cy"), 0)

    def test_a_change_leaves_what_was_handed_in(self):
        pairs = [("bo", 3), ("ann", 5)]
        changes = [("ann", 1), ("cy", 2)]
        book = Book(pairs)
        book.change(changes)
        self.assertEqual(pairs, [("bo", 3), ("ann", 5)])
        self.assertEqual(changes, [("ann", 1), ("cy", 2)])

    def test_a_list_of_changes_is_copied(self):
        changes = [("ann", 1)]
        book = Book()
        book.change(changes)
        changes[0] = ("ann", 100)
        changes.append(("bo", 100))
        self.assertEqual(book.rows(), [("ann", 1)])

    def test_a_told_list_is_the_asker_s_own(self):
        book = Book([("bo", 3), ("ann", 5)])
        told = book.rows()
        book.change([("ann", 1), ("cy", 1)])
        self.assertEqual(told, [("ann", 5), ("bo", 3)])
        later = book.rows()
        later.clear()
        told.append(("dee", 1))
        self.assertEqual(book.rows(), [("ann", 6), ("bo", 3), ("cy", 1)])
        self.assertEqual(book.amount("dee"), 0)

    def test_two_books_side_by_side(self):
        pairs = [("ann", 5)]
        one, other, third, fourth = Book(pairs), Book(pairs), Book(), Book()
        one.change([("ann", 1), ("bo", 2)])
        third.change([("ann", 7)])
        self.assertEqual(one.rows(), [("ann", 6), ("bo", 2)])
        self.assertEqual(other.rows(), [("ann", 5)])
        self.assertEqual(third.rows(), [("ann", 7)])
        self.assertEqual(fourth.rows(), [])

    def test_a_book_made_of_another_s_rows(self):
        one = Book([("bo", 3), ("ann", 5)])
        other = Book(one.rows())
        other.change([("ann", -5)])
        self.assertEqual(one.rows(), [("ann", 5), ("bo", 3)])
        self.assertEqual(other.rows(), [("bo", 3)])


class Changed(unittest.TestCase):

    def refused(self, book, changes, name):
        before = book.rows()
        amounts = [book.amount(each) for each, by in changes]
        with self.subTest(changes=changes):
            with self.assertRaises(DoorError) as caught:
                book.change(changes)
            self.assertIs(type(caught.exception), NoChange)
            self.assertEqual(caught.exception.name, name)
            self.assertEqual(book.rows(), before)
            self.assertEqual([book.amount(each) for each, by in changes], amounts)

    def test_a_change_tells_nothing(self):
        self.assertIsNone(Book().change([("ann", 1)]))
        self.assertIsNone(Book().change(()))

    def test_changes_of_any_sign(self):
        book = Book([("ann", 5), ("bo", 3), ("cy", 1)])
        book.change([("ann", -2), ("bo", 4), ("cy", 0), ("dee", 9)])
        self.assertEqual(book.rows(), [("ann", 3), ("bo", 7), ("cy", 1), ("dee", 9)])

    def test_lists_and_tuples(self):
        for changes in ([("ann", -5), ("bo", 5)], (("ann", -5), ("bo", 5))):
            book = Book([("ann", 5)])
            book.change(changes)
            self.assertEqual(book.rows(), [("bo", 5)])

    def test_no_change_at_all(self):
        for changes in ([], (), [("ann", 0)], (("cy", 0),)):
            book = Book([("ann", 5)])
            book.change(changes)
            self.assertEqual(book.rows(), [("ann", 5)])

    def test_one_behind_the_other(self):
        book = Book()
        for by in (5, -2, 4, -7, 1):
            book.change([("ann", by)])
        self.assertEqual(book.amount("ann"), 1)

    def test_to_just_nought(self):
        book = Book([("ann", 5), ("bo", MOST)])
        book.change([("ann", -5), ("bo", -MOST)])
        self.assertEqual(book.amount("ann"), 0)
        self.assertEqual(book.amount("bo"), 0)
        self.assertEqual(book.rows(), [])

    def test_to_just_the_most(self):
        book = Book([("ann", 5)])
        book.change([("ann", MOST - 5), ("bo", MOST)])
        self.assertEqual(book.rows(), [("ann", MOST), ("bo", MOST)])

    def test_a_name_comes_back_from_nought(self):
        book = Book([("ann", 5)])
        book.change([("ann", -5)])
        book.change([("ann", 2)])
        self.assertEqual(book.rows(), [("ann", 2)])

    def test_to_one_beyond_either(self):
        self.refused(Book([("ann", 5)]), [("ann", -6)], "ann")
        self.refused(Book([("ann", 5)]), [("ann", MOST - 4)], "ann")
        self.refused(Book([("ann", MOST)]), [("ann", 1)], "ann")
        self.refused(Book(), [("ann", -1)], "ann")
        self.refused(Book(), [("ann", MOST + 1)], "ann")

    def test_far_beyond_either(self):
        self.refused(Book([("ann", 5)]), [("ann", -10 ** 40)], "ann")
        self.refused(Book([("ann", 5)]), [("ann", 10 ** 40)], "ann")

    def test_the_first_such_name_in_the_order_of_the_change(self):
        pairs = [("ann", 5), ("bo", MOST), ("cy", 0)]
        self.refused(Book(pairs), [("bo", 1), ("ann", -6)], "bo")
        self.refused(Book(pairs), [("ann", -6), ("bo", 1)], "ann")
        self.refused(Book(pairs), [("cy", -1), ("bo", 1), ("ann", -6)], "cy")
        self.refused(Book(pairs), (("ann", 1), ("cy", -1), ("bo", 1)), "cy")

    def test_what_is_refused_changes_nothing(self):
        pairs = [("ann", 5), ("bo", 3)]
        self.refused(Book(pairs), [("ann", 1), ("dee", 4), ("bo", -4)], "bo")
        self.refused(Book(pairs), [("bo", -4), ("ann", 1), ("dee", 4)], "bo")
        self.refused(Book(pairs), (("ann", -5), ("bo", MOST)), "bo")

    def test_a_book_goes_on_behind_a_refusal(self):
        book = Book([("ann", 5)])
        self.refused(book, [("bo", 2), ("ann", -6)], "ann")
        book.change([("bo", 1), ("ann", -5)])
        self.assertEqual(book.rows(), [("bo", 1)])


if __name__ == "__main__":
    unittest.main()
