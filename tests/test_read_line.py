"""Point 5: single lines."""

import inspect
import unittest

from hatsight.errors import HatError, NoLine, Twice
from hatsight.lines import read_line

TWELVE = "abcdefghijkl"
LAST_TWELVE = "opqrstuvwxyz"
THIRTEEN = "abcdefghijklm"


class Lines(unittest.TestCase):
    def read(self, text, expected):
        with self.subTest(text=text):
            told = read_line(text)
            self.assertEqual(told, expected)
            self.assertIs(type(told), tuple)
            self.assertIs(type(told[1]), str)
            self.assertIs(type(told[2]), int if told[0] == "hat" else tuple)

    def refused(self, text, error=NoLine):
        with self.subTest(text=text):
            with self.assertRaises(HatError) as caught:
                read_line(text, 5)
            self.assertIs(type(caught.exception), error)
            self.assertEqual(caught.exception.line, 5)

    def test_hat_lines(self):
        self.read("hat ann 3", ("hat", "ann", 3))
        self.read("hat b 10", ("hat", "b", 10))
        self.read("hat hat 1", ("hat", "hat", 1))
        self.read("hat sees 2", ("hat", "sees", 2))
        self.read("hat ann 120", ("hat", "ann", 120))

    def test_sees_lines(self):
        self.read("sees ann bob", ("sees", "ann", ("bob",)))
        self.read("sees a c b", ("sees", "a", ("c", "b")))
        self.read("sees z y x w v u t s", ("sees", "z", ("y", "x", "w", "v", "u", "t", "s")))
        self.read("sees hat sees", ("sees", "hat", ("sees",)))
        self.read("sees aa a aaa", ("sees", "aa", ("a", "aaa")))

    def test_names_of_one_and_twelve_letters(self):
        for name in ("a", "m", "z", TWELVE, LAST_TWELVE):
            self.read("hat " + name + " 2", ("hat", name, 2))
            self.read("sees " + name + " bob", ("sees", name, ("bob",)))
            self.read("sees bob " + name, ("sees", "bob", (name,)))
            self.read("sees bob tom " + name, ("sees", "bob", ("tom", name)))

    def test_every_letter_is_one(self):
        for sign in "abcdefghijklmnopqrstuvwxyz":
            self.read("hat " + sign + " 2", ("hat", sign, 2))
            self.read("sees x" + sign + "x bob", ("sees", "x" + sign + "x", ("bob",)))

    def test_wrong_names(self):
        wrong = ["", THIRTEEN, "a" * 14, "a" * 500]
        for sign in [chr(k) for k in range(33, 127) if chr(k) != "%"]:
            if not "a" <= sign <= "z":
                wrong.extend([sign, sign + "a", "a" + sign, "a" + sign + "b"])
        for name in wrong:
            self.refused("hat " + name + " 2")
            self.refused("sees " + name + " bob")
            self.refused("sees bob " + name)
            self.refused("sees bob tom " + name)
            self.refused("sees bob " + name + " tom")

    def test_counts(self):
        for figures in ("1", "2", "9", "10", "19", "90", "100", "1234567890", "1" + "0" * 29, "9" * 30):
            self.read("hat ann " + figures, ("hat", "ann", int(figures)))

    def test_wrong_counts(self):
        wrong = ["", "0", "00", "01", "007", "0" * 30, "0" + "1" * 29, "1" + "0" * 30, "9" * 31]
        wrong.extend(["0" * 29 + "1", "1" * 5000, "1.0", "1e3", "0x2", "1_0", "two", "2a", "a2", "1,0"])
        for sign in [chr(k) for k in range(33, 127) if chr(k) != "%"]:
            if not "0" <= sign <= "9":
                wrong.extend([sign, sign + "2", "2" + sign, "2" + sign + "2"])
        for figures in wrong:
            self.refused("hat ann " + figures)

    def test_parts_lacking_or_too_many(self):
        for text in ("", "hat", "hat ann", "hat 2", "hat ann 2 3", "hat ann 2 bob", "hat ann bob", "hat ann bob 2",
                     "hat 2 ann", "sees", "sees ann", "sees ann 2", "sees 2 ann", "sees ann bob 2", "ann", "ann 2"):
            self.refused(text)

    def test_first_words(self):
        for text in ("Hat ann 2", "HAT ann 2", "hats ann 2", "ha ann 2", "xhat ann 2", "hatann 2", "Sees ann bob",
                     "see ann bob", "seess ann bob", "sights ann bob", "ann sees bob", "ann hat 2", "put ann 2",
                     "hat,ann,2", "sees-ann-bob", "sees ann,bob"):
            self.refused(text)

    def test_blanks(self):
        for text in (" ", "  ", "   ", " hat ann 2", "hat ann 2 ", "hat  ann 2", "hat ann  2", "hat ann 2  ",
                     "hat ", "hat  ", "hat  2", "hat ann ", " sees ann bob", "sees ann bob ", "sees  ann bob",
                     "sees ann  bob", "sees ann bob  tom", "sees ann bob  ", "sees ann ", "sees  ann", "sees  "):
            self.refused(text)

    def test_line_feeds(self):
        for text in ("\n", "hat ann 2\n", "\nhat ann 2", "hat\nann 2", "hat ann\n2", "hat ann 2\n\n",
                     "hat ann 2\nhat bob 2", "hat an\nn 2", "hat ann 2\n3", "sees ann bob\n", "\nsees ann bob",
                     "sees ann\nbob", "sees ann bob\ntom", "sees ann bob\nsees bob ann", "sees ann bob\n tom",
                     "hat ann \n2", "hat \nann 2", "hat ann\n 2"):
            self.refused(text)

    def test_a_name_twice_in_a_sees_line(self):
        for text in ("sees a a", "sees a b a", "sees a b b", "sees a b c b", "sees a b c d e f g h a", "sees a a a",
                     "sees " + TWELVE + " b " + TWELVE):
            self.refused(text, Twice)

    def test_no_line_goes_ahead_of_twice(self):
        for text in ("sees a a 2", "sees a a ", " sees a a", "sees a  a", "sees a b b B", "sees a a " + THIRTEEN,
                     "sees 2 2", "sees A A", "sees a a\n", "see a a", "hat a a"):
            self.refused(text)

    def test_a_line_as_long_as_texts_may_be_and_beyond(self):
        letters = "abcdefghijklmnopqrstuvwxyz"
        names = [a + b + c for a in letters for b in letters for c in letters]
        for many in (1400, 3000):
            self.read("sees ann " + " ".join(names[600:600 + many]), ("sees", "ann", tuple(names[600:600 + many])))
        self.refused("sees ann " + " ".join(names[600:2000]) + " " + names[1999], Twice)
        self.refused("sees " + "a" * 6000 + " b")


class LineNumbers(unittest.TestCase):
    def caught(self, *arguments, **named):
        with self.assertRaises(HatError) as caught:
            read_line(*arguments, **named)
        return caught.exception

    def test_line_left_out(self):
        self.assertEqual(self.caught("no").line, 0)
        self.assertEqual(self.caught("sees a a").line, 0)

    def test_line_by_its_place_and_by_its_name(self):
        for line in (0, 1, 2, 9, 6000, 10 ** 79, 10 ** 80 - 1, 10 ** 90):
            for text, error in (("no", NoLine), ("sees a a", Twice)):
                with self.subTest(text=text, line=line):
                    for made in (self.caught(text, line), self.caught(text, line=line),
                                 self.caught(text=text, line=line)):
                        self.assertIs(type(made), error)
                        self.assertEqual(made.line, line)
                        self.assertIs(type(made.line), int)

    def test_the_number_is_not_kept(self):
        self.caught("no", 7)
        self.assertEqual(self.caught("no").line, 0)

    def test_the_number_changes_nothing_else(self):
        self.assertEqual(read_line("hat ann 3", 4), ("hat", "ann", 3))
        self.assertEqual(read_line("sees ann bob", line=10 ** 79), ("sees", "ann", ("bob",)))

    def test_arguments(self):
        told = inspect.signature(read_line).parameters
        self.assertEqual(list(told), ["text", "line"])
        self.assertIs(told["text"].default, inspect.Parameter.empty)
        self.assertEqual(told["line"].default, 0)


if __name__ == "__main__":
    unittest.main()
