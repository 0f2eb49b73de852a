"""Points 6 and 7: books, read and shown."""

import inspect
import itertools
import random
import unittest

from hatsight.errors import HatError, NoLine, TooMany, Twice, Unknown
from hatsight.lines import read_book, shown_book

EIGHT = ["hat " + name + " 2" for name in "abcdefgh"]
NOBODY = ((), (), ())


def expected_text(names, counts, web):
    rows = ["hat " + name + " " + str(count) for name, count in zip(names, counts)]
    for name, mask in zip(names, web):
        seen = [other for j, other in enumerate(names) if mask & (1 << j)]
        if seen:
            rows.append("sees " + name + " " + " ".join(seen))
    return "\n".join(rows)


def all_webs(many):
    masks = [[mask for mask in range(1 << many) if not mask & (1 << i)] for i in range(many)]
    return itertools.product(*masks)


class Books(unittest.TestCase):
    def read(self, rows, expected):
        with self.subTest(rows=rows):
            book = read_book("\n".join(rows))
            self.assertEqual(book, expected)
            self.assertIs(type(book), tuple)
            for part, kind in zip(book, (str, int, int)):
                self.assertIs(type(part), tuple)
                for value in part:
                    self.assertIs(type(value), kind)

    def test_the_empty_text(self):
        self.read([], NOBODY)
        self.assertEqual(read_book(""), NOBODY)

    def test_one_alone(self):
        self.read(["hat ann 1"], (("ann",), (1,), (0,)))

    def test_people_are_numbered_by_their_hat_lines(self):
        self.read(["hat zoe 2", "hat ann 3", "hat mia 4"], (("zoe", "ann", "mia"), (2, 3, 4), (0, 0, 0)))

    def test_who_has_no_sees_line_sees_nobody(self):
        self.read(["hat a 2", "hat b 3", "hat c 4", "sees b c"], (("a", "b", "c"), (2, 3, 4), (0, 4, 0)))

    def test_sees_lines_in_any_order(self):
        self.read(["hat a 2", "hat b 3", "hat c 4", "sees c b a", "sees a c b"],
                  (("a", "b", "c"), (2, 3, 4), (6, 0, 3)))

    def test_hat_lines_behind_sees_lines(self):
        self.read(["hat a 2", "hat b 3", "sees b a", "hat c 4", "sees c a", "hat d 5", "sees a d b"],
                  (("a", "b", "c", "d"), (2, 3, 4, 5), (10, 1, 1, 0)))

    def test_who_is_seen_may_see_later(self):
        self.read(["hat a 2", "hat b 2", "sees a b", "sees b a"], (("a", "b"), (2, 2), (2, 1)))

    def test_eight_people_who_all_see_one_another(self):
        sights = ["sees " + name + " " + " ".join(other for other in "hgfedcba" if other != name) for name in "abcdefgh"]
        self.read(EIGHT + sights, (tuple("abcdefgh"), (2,) * 8, tuple(255 - (1 << i) for i in range(8))))

    def test_longest_names_and_counts(self):
        self.read(["hat abcdefghijkl " + "9" * 30, "hat hat 1", "sees hat abcdefghijkl"],
                  (("abcdefghijkl", "hat"), (10 ** 30 - 1, 1), (0, 1)))

    def test_books_keep_nothing_of_one_another(self):
        first = read_book("hat a 2\nhat b 2\nsees a b")
        self.assertEqual(read_book("hat b 3\nhat a 4\nsees b a"), (("b", "a"), (3, 4), (2, 0)))
        self.assertEqual(read_book(""), NOBODY)
        self.assertEqual(read_book("hat a 2\nhat b 2\nsees a b"), first)
        self.assertEqual(first, (("a", "b"), (2, 2), (2, 0)))


class Refusals(unittest.TestCase):
    def refused(self, rows, error, line):
        with self.subTest(rows=rows):
            with self.assertRaises(HatError) as caught:
                read_book("\n".join(rows))
            self.assertIs(type(caught.exception), error)
            self.assertEqual(caught.exception.line, line)
            self.assertIs(type(caught.exception.line), int)

    def test_no_line(self):
        self.refused(["no"], NoLine, 0)
        self.refused([" "], NoLine, 0)
        self.refused(["hat a 2", "hat b 0"], NoLine, 1)
        self.refused(["hat a 2", "hat b 2", "sees a"], NoLine, 2)
        self.refused(["hat a 2", "hat b 2", "sees a  b"], NoLine, 2)
        self.refused(["hat a 2 "], NoLine, 0)
        self.refused(["hat a 2", "hat abcdefghijklm 2"], NoLine, 1)
        self.refused(["hat a 2", "hat b " + "1" * 31], NoLine, 1)

    def test_empty_lines(self):
        self.refused(["", ""], NoLine, 0)
        self.refused(["", "hat a 2"], NoLine, 0)
        self.refused(["hat a 2", ""], NoLine, 1)
        self.refused(["hat a 2", "", "hat b 2"], NoLine, 1)
        self.refused(["hat a 2", "hat b 2", "", ""], NoLine, 2)
        self.refused(EIGHT + [""], NoLine, 8)

    def test_a_hat_twice(self):
        self.refused(["hat a 2", "hat a 2"], Twice, 1)
        self.refused(["hat a 2", "hat b 2", "hat c 2", "hat a 3"], Twice, 3)
        self.refused(["hat a 2", "hat b 2", "sees a b", "hat b 2"], Twice, 3)

    def test_a_name_twice_in_a_sees_line(self):
        self.refused(["hat a 2", "hat b 2", "sees a a"], Twice, 2)
        self.refused(["hat a 2", "hat b 2", "sees a b a"], Twice, 2)
        self.refused(["hat a 2", "hat b 2", "sees a b b"], Twice, 2)

    def test_a_second_sees_line(self):
        self.refused(["hat a 2", "hat b 2", "sees a b", "sees a b"], Twice, 3)
        self.refused(["hat a 2", "hat b 2", "sees a b", "hat c 2", "sees b a", "sees a c"], Twice, 5)
        self.refused(["hat a 2", "hat b 2", "sees b a", "sees b a"], Twice, 3)

    def test_unknown_names(self):
        self.refused(["sees a b"], Unknown, 0)
        self.refused(["hat a 2", "sees a b"], Unknown, 1)
        self.refused(["hat a 2", "sees b a"], Unknown, 1)
        self.refused(["hat a 2", "sees b c"], Unknown, 1)
        self.refused(["hat a 2", "hat b 2", "sees a b c"], Unknown, 2)
        self.refused(["hat a 2", "hat b 2", "sees a c b"], Unknown, 2)
        self.refused(["hat ann 2", "hat bob 2", "sees ann bo"], Unknown, 2)

    def test_a_hat_by_a_line_below_is_unknown(self):
        self.refused(["hat a 2", "sees a b", "hat b 2"], Unknown, 1)
        self.refused(["hat a 2", "sees b a", "hat b 2"], Unknown, 1)

    def test_the_ninth_hat_line(self):
        self.refused(EIGHT + ["hat i 2"], TooMany, 8)
        self.refused(EIGHT + ["sees a b", "sees b a", "hat i 2"], TooMany, 10)
        self.refused(EIGHT[:3] + ["sees a b"] + EIGHT[3:] + ["hat i 2", "hat j 2"], TooMany, 9)

    def test_other_lines_behind_the_eighth_hat_line(self):
        book = read_book("\n".join(EIGHT + ["sees a h", "sees h a"]))
        self.assertEqual(book, (tuple("abcdefgh"), (2,) * 8, (128, 0, 0, 0, 0, 0, 0, 1)))

    def test_of_two_faults_the_one_told_first(self):
        two = ["hat a 2", "hat b 2"]
        # Neither of both, and twice.
        self.refused(two + ["hat a 0"], NoLine, 2)
        self.refused(two + ["sees a a "], NoLine, 2)
        self.refused(two + ["sees a b", "sees a"], NoLine, 3)
        self.refused(two + ["sees a b", "sees a 2"], NoLine, 3)
        # Neither of both, and unknown or too many.
        self.refused(two + ["sees c d 2"], NoLine, 2)
        self.refused(two + ["sees c"], NoLine, 2)
        self.refused(EIGHT + ["hat i 0"], NoLine, 8)
        # Twice, and unknown.
        self.refused(two + ["sees c c"], Twice, 2)
        self.refused(two + ["sees a c c"], Twice, 2)
        self.refused(two + ["sees a a c"], Twice, 2)
        self.refused(two + ["sees c a a"], Twice, 2)
        self.refused(two + ["sees c b c"], Twice, 2)
        self.refused(two + ["sees a b", "sees a c"], Twice, 3)
        self.refused(two + ["sees a b", "sees a c d"], Twice, 3)
        # Twice, and too many.
        self.refused(EIGHT + ["hat a 2"], Twice, 8)
        self.refused(EIGHT + ["hat h 2"], Twice, 8)

    def test_of_two_lines_the_first_one(self):
        self.refused(["sees a b", "no"], Unknown, 0)
        self.refused(["hat a 2", "sees a b", "hat a 2"], Unknown, 1)
        self.refused(["hat a 2", "hat a 2", "no"], Twice, 1)
        self.refused(["hat a 2", "hat b 2", "sees a a", "sees a c"], Twice, 2)
        self.refused(["hat a 2", "no", "hat a 2"], NoLine, 1)
        self.refused(["no", "", ""], NoLine, 0)
        self.refused(EIGHT + ["hat i 2", "no"], TooMany, 8)
        self.refused(EIGHT + ["hat i 2", "hat a 2"], TooMany, 8)
        self.refused(EIGHT + ["sees x y", "hat i 2"], Unknown, 8)
        self.refused(EIGHT + ["hat i 2", "sees x y"], TooMany, 8)

    def test_texts_as_long_as_they_may_be_and_beyond(self):
        for many in (6000, 9000):
            self.refused([""] * (many + 1), NoLine, 0)
            self.refused(["hat a 2"] + ["sees a b"] * (many // 9), Unknown, 1)
            self.refused(["hat a 2", "x" * many], NoLine, 1)


class ShownBooks(unittest.TestCase):
    def shown(self, book, text):
        with self.subTest(text=text):
            told = shown_book(book)
            self.assertIs(type(told), str)
            self.assertEqual(told, text)
            self.assertEqual(read_book(told), book)
            self.assertEqual(shown_book(read_book(told)), text)

    def test_nobody(self):
        self.shown(NOBODY, "")

    def test_who_sees_nobody_has_no_sees_line(self):
        self.shown((("ann",), (7,), (0,)), "hat ann 7")
        self.shown((("b", "a"), (2, 3), (0, 0)), "hat b 2\nhat a 3")
        self.shown((("b", "a"), (2, 3), (0, 1)), "hat b 2\nhat a 3\nsees a b")

    def test_those_who_are_seen_by_number(self):
        self.shown((("c", "a", "b"), (2, 3, 4), (6, 5, 3)),
                   "hat c 2\nhat a 3\nhat b 4\nsees c a b\nsees a c b\nsees b c a")

    def test_what_was_told_in_another_order(self):
        text = "hat c 2\nhat a 3\nsees a c\nhat b 4\nsees c b a"
        self.assertEqual(shown_book(read_book(text)), "hat c 2\nhat a 3\nhat b 4\nsees c a b\nsees a c")

    def test_longest_names_and_counts(self):
        names = tuple("abcdefghijk" + last for last in "hgfedcba")
        counts = tuple(10 ** 30 - 1 - i for i in range(8))
        web = tuple(255 - (1 << i) for i in range(8))
        self.shown((names, counts, web), expected_text(names, counts, web))

    def test_all_webs_of_three(self):
        for web in all_webs(3):
            self.shown((("z", "hat", "sees"), (1, 20, 10 ** 29), web),
                       expected_text(("z", "hat", "sees"), (1, 20, 10 ** 29), web))

    def test_many_webs_of_up_to_eight(self):
        chance = random.Random(7)
        for many in range(1, 9):
            for step in range(20):
                names = tuple(chance.sample("abcdefghijklmnopqrstuvwxyz", many))
                counts = tuple(chance.randrange(1, 10 ** chance.randrange(1, 31)) for i in range(many))
                web = tuple(chance.randrange(1 << many) & ~(1 << i) for i in range(many))
                self.shown((names, counts, web), expected_text(names, counts, web))

    def test_more_people_than_a_text_may_have_are_shown(self):
        names = tuple("jihgfedcba")
        counts = tuple(10 ** 31 + i for i in range(10))
        web = (1 << 9, 0, 0, 0, 0, 0, 0, 0, 3, 511)
        self.assertEqual(shown_book((names, counts, web)), expected_text(names, counts, web))


class Arguments(unittest.TestCase):
    def test_names(self):
        self.assertEqual(list(inspect.signature(read_book).parameters), ["text"])
        self.assertEqual(list(inspect.signature(shown_book).parameters), ["book"])
        self.assertEqual(read_book(text="hat a 2"), (("a",), (2,), (0,)))
        self.assertEqual(shown_book(book=(("a",), (2,), (0,))), "hat a 2")


if __name__ == "__main__":
    unittest.main()
