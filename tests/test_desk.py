"""Points 2, 4, 24 and 25: the desk, its asks, its answers and what it refuses."""

import inspect
import random
import re
import unittest
from fractions import Fraction

from hatsight.circles import circle_guess
from hatsight.desk import Desk
from hatsight.errors import HatError, NoAsk, NoHats, NoLine, NoName, TooMany, Twice, Unknown
from hatsight.groups import best_groups, group_fault, made_sure
from hatsight.lines import read_book, shown_book
from hatsight.rings import ring_guess
from hatsight.webs import is_ring

LARGEST = 10 ** 30 - 1
NAMES = ("zoe", "ann", "mia", "bob", "sure", "put", "x", "abcdefghijkl")
PLAIN = ("sure", "share", "groups", "ring", "order", "right", "book")
TRIO = "hat ann 2\nhat bob 2\nhat cat 3\nsees ann bob\nsees bob ann\nsees cat bob ann"


def full_web(many):
    return tuple(((1 << many) - 1) & ~(1 << i) for i in range(many))


def web_of(many, sights):
    masks = [0] * many
    for i, j in sights:
        masks[i] |= 1 << j
    return tuple(masks)


def chance_book(chance):
    many = chance.randrange(9)
    few = chance.choice(((2,), (2, 2, 3), (1, 2, 3, 4), (2, LARGEST), (2, 5, 10 ** 29, LARGEST)))
    of = chance.choice((0.1, 0.3, 0.6, 0.9, 1))
    rank = chance.choice((list(range(many)), [0] * many))
    sights = [(i, j) for i in range(many) for j in range(many)
              if i != j and chance.random() < of and (rank[i] > rank[j] or not any(rank))]
    return (NAMES[:many], tuple(chance.choice(few) for i in range(many)), web_of(many, sights))


# What stands at a desk, kept beside it and told by the document's words.
class Model:
    def __init__(self, text, groups):
        self.names, self.counts, self.web = read_book(text)
        self.groups = groups
        self.hats = [0] * len(self.names)

    def guess(self, i):
        for kind, people in self.groups:
            if i in people:
                place = people.index(i)
                if kind == "ring":
                    return ring_guess(len(people), place, self.hats[people[place + 1 - len(people)]])
                return circle_guess(tuple(self.counts[j] for j in people), tuple(self.hats[j] for j in people), place)
        return 0

    def right(self):
        names = [name for i, name in enumerate(self.names) if self.guess(i) == self.hats[i]]
        return [" ".join(names)] if names else []

    def refusal(self, line):
        match = re.fullmatch(r"(?:sure|share|groups|ring|order|right|book)|guess ([a-z]{1,12})|"
                             r"put ([a-z]{1,12}) (0|[1-9][0-9]{0,29})", line)
        if match is None:
            return NoAsk
        name = match[1] or match[2]
        if name is not None and name not in self.names:
            return NoName
        if match[3] is not None and int(match[3]) >= self.counts[self.names.index(name)]:
            return NoHats
        return None


def groups_told(desk, names):
    rows = [row.split(" ") for row in desk.ask("groups")]
    return tuple((row[0], tuple(names.index(name) for name in row[1:])) for row in rows)


class Asked(unittest.TestCase):
    def told(self, desk, line, expected):
        answer = desk.ask(line)
        self.assertEqual(answer, expected, line)
        self.assertIs(type(answer), list, line)
        self.assertTrue(all(type(text) is str for text in answer), line)

    def refused(self, kind, desk, line):
        with self.assertRaises(HatError) as caught:
            desk.ask(line)
        self.assertIs(type(caught.exception), kind, line)

    def state(self, desk, names):
        return [desk.ask(line) for line in PLAIN] + [desk.ask("guess " + name) for name in names]


class Begins(Asked):
    def test_without_a_text_and_of_the_empty_one(self):
        for desk in (Desk(), Desk(""), Desk(text="")):
            for line, expected in (("sure", ["0"]), ("share", ["0/1"]), ("groups", []), ("ring", []), ("order", []),
                                   ("right", []), ("book", [])):
                self.told(desk, line, expected)
            for line in ("guess ann", "put ann 0", "put ann 1", "guess nobody"):
                self.refused(NoName, desk, line)

    def test_of_one(self):
        for count, sure in ((1, "1"), (2, "0"), (LARGEST, "0")):
            desk = Desk(f"hat ann {count}")
            self.told(desk, "sure", [sure])
            self.told(desk, "share", [f"1/{count}"])
            self.told(desk, "ring", [])
            self.told(desk, "order", ["ann"])
            self.told(desk, "book", [f"hat ann {count}"])
            guess = desk.ask("guess ann")[0]
            self.assertTrue(0 <= int(guess) < count)
            self.told(desk, "put ann " + guess, [])
            self.told(desk, "right", ["ann"])
            self.told(desk, "put ann " + str((int(guess) + 1) % count), [])
            self.told(desk, "right", ["ann"] if count == 1 else [])
        self.assertEqual(Desk("hat ann 1").ask("groups"), ["circle ann"])

    def text_refused(self, kind, line, text):
        with self.assertRaises(HatError) as caught:
            Desk(text)
        self.assertIs(type(caught.exception), kind, text)
        self.assertEqual(caught.exception.line, line, text)

    def test_texts_that_are_refused(self):
        for kind, line, text in ((NoLine, 0, "hat"), (NoLine, 0, " "), (NoLine, 0, "\n"), (NoLine, 1, "hat ann 2\n"),
                                 (NoLine, 1, "hat ann 2\nhat bob 02"), (NoLine, 2, "hat a 1\nhat b 1\nsees a"),
                                 (Twice, 1, "hat ann 2\nhat ann 3"), (Twice, 0, "sees ann ann"),
                                 (Twice, 3, "hat a 1\nhat b 1\nsees a b\nsees a b"), (Unknown, 0, "sees ann bob"),
                                 (Unknown, 1, "hat ann 2\nsees ann bob"), (NoLine, 0, "sure"),
                                 (TooMany, 8, "\n".join(f"hat {name} 2" for name in "abcdefghi"))):
            self.text_refused(kind, line, text)
        self.text_refused(NoLine, 0, "hat ann 1" + "0" * 30)

    def test_a_refused_text_changes_nothing_at_another_desk(self):
        desk = Desk(TRIO)
        desk.ask("put cat 2")
        before = self.state(desk, ("ann", "bob", "cat"))
        self.text_refused(Twice, 1, "hat ann 2\nhat ann 3")
        self.assertEqual(self.state(desk, ("ann", "bob", "cat")), before)


class Answers(Asked):
    def test_a_trio(self):
        desk = Desk(TRIO)
        self.told(desk, "sure", ["1"])
        self.told(desk, "share", ["4/3"])
        self.told(desk, "order", [])
        self.assertIn(desk.ask("ring"), (["ann bob"], ["bob ann"]))
        self.told(desk, "book", ["hat ann 2", "hat bob 2", "hat cat 3", "sees ann bob", "sees bob ann",
                                 "sees cat ann bob"])

    def test_a_ring_of_three(self):
        desk = Desk("hat ann 2\nhat bob 2\nhat cat 2\nsees ann cat\nsees cat bob\nsees bob ann")
        turns = ("ann cat bob", "cat bob ann", "bob ann cat")
        self.told(desk, "sure", ["1"])
        self.assertIn(desk.ask("ring"), [[turn] for turn in turns])
        self.assertIn(desk.ask("groups"), [["ring " + turn] for turn in turns])
        self.told(desk, "order", [])

    def test_an_order(self):
        desk = Desk("hat ann 2\nhat bob 2\nhat cat 2\nsees ann bob cat\nsees bob cat")
        self.told(desk, "order", ["cat bob ann"])
        self.told(desk, "ring", [])
        self.told(desk, "sure", ["0"])
        self.told(desk, "share", ["3/2"])

    def test_shares(self):
        for counts in ((2, 2), (6, 3), (2, 3, 6), (4, 4, 4), (1, 1), (LARGEST,) * 8, (10 ** 29,) * 2,
                       tuple(LARGEST - i for i in range(8))):
            desk = Desk(shown_book((NAMES[:len(counts)], counts, (0,) * len(counts))))
            exact = sum(Fraction(1, count) for count in counts)
            self.told(desk, "share", [f"{exact.numerator}/{exact.denominator}"])

    def test_eight_who_all_see_one_another(self):
        for counts, sure in (((2,) * 8, "4"), ((4,) * 8, "2"), ((1,) * 8, "8"), ((LARGEST,) * 8, "0"),
                             ((2, 3, 6, 2, 3, 6, 2, 2), "3")):
            book = (NAMES, counts, full_web(8))
            desk = Desk(shown_book(book))
            self.told(desk, "sure", [sure])
            self.told(desk, "book", shown_book(book).split("\n"))
            self.told(desk, "order", [])
            self.assertEqual(len(desk.ask("ring")), 1)
            for name, count in zip(NAMES, counts):
                self.told(desk, f"put {name} {count - 1}", [])
                self.assertTrue(0 <= int(desk.ask("guess " + name)[0]) < count)

    def test_groups_of_the_book_alone(self):
        self.assertEqual(sorted(Desk("hat ann 1\nhat bob 1").ask("groups")), ["circle ann", "circle bob"])
        row = Desk("hat ann 2\nhat bob 2\nsees ann bob\nsees bob ann").ask("groups")
        self.assertIn(row, (["circle ann bob"], ["ring ann bob"], ["ring bob ann"]))

    def test_the_book_as_it_is_shown(self):
        desk = Desk("hat bob 3\nhat ann 2\nsees ann bob\nhat cat 1\nsees bob cat ann")
        self.told(desk, "book", ["hat bob 3", "hat ann 2", "hat cat 1", "sees bob ann cat", "sees ann bob"])

    def test_who_is_right_by_number(self):
        desk = Desk("hat zoe 1\nhat ann 1\nhat mia 1")
        self.told(desk, "right", ["zoe ann mia"])

    def test_nobody_is_right(self):
        desk = Desk("hat ann 2\nhat bob 2")
        for name in ("ann", "bob"):
            guess = int(desk.ask("guess " + name)[0])
            self.told(desk, f"put {name} {1 - guess}", [])
        self.told(desk, "right", [])

    def test_colours_of_thirty_figures(self):
        desk = Desk(f"hat ann {LARGEST}\nhat bob 2\nhat cat 1{'0' * 29}\nsees ann cat\nsees cat ann")
        self.told(desk, f"put ann {LARGEST - 1}", [])
        self.refused(NoHats, desk, f"put ann {LARGEST}")
        self.told(desk, "put ann 1" + "0" * 29, [])
        self.told(desk, "put cat " + "9" * 29, [])
        self.refused(NoHats, desk, "put cat 1" + "0" * 29)
        guess = desk.ask("guess ann")[0]
        self.told(desk, "put ann " + guess, [])
        self.assertIn("ann", desk.ask("right")[0].split(" "))

    def test_a_put_of_nought(self):
        desk = Desk("hat ann 2\nhat bob 2\nsees ann bob\nsees bob ann")
        at_first = self.state(desk, ("ann", "bob"))
        self.told(desk, "put ann 1", [])
        self.told(desk, "put bob 1", [])
        self.told(desk, "put ann 0", [])
        self.told(desk, "put bob 0", [])
        self.assertEqual(self.state(desk, ("ann", "bob")), at_first)

    def test_names_that_are_words_of_asks(self):
        desk = Desk("\n".join(f"hat {name} 2" for name in ("put", "guess", "right", "sure", "hat", "sees")))
        self.told(desk, "put put 1", [])
        self.told(desk, "guess guess", desk.ask("guess right"))
        self.told(desk, "put guess 0", [])
        self.refused(NoName, desk, "guess share")

    def test_any_book(self):
        chance = random.Random(54)
        for step in range(250):
            book = chance_book(chance)
            names, counts, web = book
            desk = Desk(shown_book(book))
            groups = groups_told(desk, names)
            self.assertEqual(groups, best_groups(counts, web))
            self.assertIsNone(group_fault(counts, web, groups))
            self.told(desk, "sure", [str(made_sure(counts, groups))])
            self.told(desk, "book", shown_book(book).split("\n") if names else [])
            self.check_sight(desk, names, web)

    def check_sight(self, desk, names, web):
        ring = desk.ask("ring")
        order = desk.ask("order")
        self.assertEqual(len(ring) + len(order), 1 if names else 0)
        if ring:
            self.assertTrue(is_ring(web, tuple(names.index(name) for name in ring[0].split(" "))))
        if order:
            people = [names.index(name) for name in order[0].split(" ")]
            self.assertEqual(sorted(people), list(range(len(names))))
            for place, i in enumerate(people):
                self.assertEqual(web[i] & ~sum(1 << j for j in people[:place]), 0)


class NoAsks(Asked):
    def setUp(self):
        self.desk = Desk(TRIO)
        self.desk.ask("put ann 1")
        self.desk.ask("put cat 2")
        self.before = self.state(self.desk, ("ann", "bob", "cat"))

    def tearDown(self):
        self.assertEqual(self.state(self.desk, ("ann", "bob", "cat")), self.before)

    def no_ask(self, *lines):
        for line in lines:
            self.refused(NoAsk, self.desk, line)

    def test_empty_and_blanks_only(self):
        self.no_ask("", " ", "  ", "   ", "\n", " \n", "\n ")

    def test_other_first_words(self):
        self.no_ask("hat", "hat ann 2", "sees ann bob", "Sure", "SURE", "sures", "sur", "put_all ann 1", "ask", "ann",
                    "name", "0", "1", "guesses ann", "puts ann 0", "colour", "is", "sure,", "sure;share", "rightt")

    def test_blanks_ahead_behind_and_twice(self):
        for line in PLAIN + ("guess ann", "put ann 0"):
            self.no_ask(" " + line, line + " ", " " + line + " ", "  " + line, line + "  ")
        self.no_ask("guess  ann", "put  ann 0", "put ann  0", "guess ", "guess  ", "put  ", "put ann ", "put  0")

    def test_line_feeds(self):
        for line in PLAIN + ("guess ann", "put ann 0"):
            self.no_ask(line + "\n", "\n" + line, line + "\n" + line)
        self.no_ask("guess\nann", "put\nann 0", "put ann\n0", "put ann 1\n", "put ann\n 1")

    def test_words_too_many(self):
        for line in PLAIN + ("guess ann", "put ann 0"):
            self.no_ask(line + " ann", line + " 0", line + " " + line, line + " ann 0", line + " bob ann")

    def test_words_lacking(self):
        self.no_ask("guess", "put", "put ann", "put 0", "put 1")

    def test_no_name_in_its_place(self):
        for word in ("Ann", "ANN", "ann1", "1", "0", "a_b", "a-b", "abcdefghijklm", "a" * 40, "ann.", "~", "!", "ann,bob"):
            self.no_ask("guess " + word, "put " + word + " 0", "put " + word + " 1", "put " + word + " 99")

    def test_no_figures_in_their_place(self):
        for word in ("00", "01", "02", "000", "0" * 30, "-1", "+1", "-0", "+0", "1.0", "1_0", "0x1", "1e1", "a", "ann", "one",
                     "1a", "a1", "1" + "0" * 30, "9" * 31, "0" * 31, "0" + "9" * 29, "0" + "9" * 30, "1,0", "~", "9" * 5900):
            self.no_ask("put ann " + word, "put cat " + word)

    # Who is no name of the book is told only where the line is an ask at all.
    def test_told_ahead_of_other_faults(self):
        self.no_ask("guess zoe ann", "put zoe 01", "put zoe", "put zoe -1", "put zoe 0 ", "put zoe " + "9" * 31, "put 0 zoe",
                    "put zoe ann", "put Zoe 9")


class NoNamesAndHats(Asked):
    def setUp(self):
        self.desk = Desk(TRIO)
        self.desk.ask("put bob 1")
        self.before = self.state(self.desk, ("ann", "bob", "cat"))

    def tearDown(self):
        self.assertEqual(self.state(self.desk, ("ann", "bob", "cat")), self.before)

    def test_names_that_the_book_lacks(self):
        for name in ("zoe", "a", "an", "anna", "annbob", "abcdefghijkl", "sure", "put", "name", "circle"):
            self.refused(NoName, self.desk, "guess " + name)
            for colour in ("0", "1", "2", "3", "9" * 30, "1" + "0" * 29):
                self.refused(NoName, self.desk, f"put {name} {colour}")

    def test_colours_that_are_none_of_that_person(self):
        for name, count in (("ann", 2), ("bob", 2), ("cat", 3)):
            for colour in (count, count + 1, 10, 10 ** 29, LARGEST):
                self.refused(NoHats, self.desk, f"put {name} {colour}")

    def test_a_colour_of_another_person(self):
        self.refused(NoHats, self.desk, "put ann 2")
        self.desk.ask("put cat 2")
        self.desk.ask("put cat 0")

    def test_a_count_of_one(self):
        desk = Desk("hat ann 1")
        self.refused(NoHats, desk, "put ann 1")
        self.told(desk, "put ann 0", [])
        self.told(desk, "right", ["ann"])


class ManyAsks(Asked):
    def line(self, chance, names, counts):
        name = chance.choice(names + ("zoo", "nobody", "", "Ann", "abcdefghijklm"))
        largest = chance.choice(counts + (1, 2, 3, LARGEST, 10 ** 31))
        colour = chance.choice(("0", str(chance.randrange(largest)), str(chance.randrange(min(largest, 4))), str(largest),
                                "00", "01", "-1", ""))
        return chance.choice(PLAIN + ("guess " + name,) * 6 + ("put " + name + " " + colour,) * 14
                             + ("put " + name, "guess", "", " ", "sure ", "guess  " + name, "book book", "turn"))

    def test_a_desk_does_as_its_model(self):
        chance = random.Random(55)
        seen = {}
        for step in range(120):
            text = shown_book(chance_book(chance))
            desk = Desk(text)
            names, counts, web = read_book(text)
            model = Model(text, groups_told(desk, names))
            for turn in range(60):
                line = self.line(chance, names, counts)
                refusal = model.refusal(line)
                seen[refusal] = seen.get(refusal, 0) + 1
                if refusal is not None:
                    self.refused(refusal, desk, line)
                elif line.startswith("put"):
                    words = line.split(" ")
                    model.hats[names.index(words[1])] = int(words[2])
                    self.told(desk, line, [])
                elif line.startswith("guess"):
                    self.told(desk, line, [str(model.guess(names.index(line.split(" ")[1])))])
                else:
                    self.told(desk, line, model.right() if line == "right" else desk.ask(line))
                self.told(desk, "right", model.right())
        for kind in (None, NoAsk, NoName, NoHats):
            self.assertGreater(seen[kind], 100)


class OnesOwn(Asked):
    def test_answers_are_new_lists(self):
        desk = Desk(TRIO)
        for line in PLAIN + ("guess ann", "put ann 1"):
            first = desk.ask(line)
            kept = list(first)
            self.assertIsNot(desk.ask(line), first)
            first.append("more")
            self.assertEqual(desk.ask(line), kept)
            desk.ask(line).clear()
            self.assertEqual(desk.ask(line), kept)

    def test_answers_of_nobody_are_new_lists(self):
        desk = Desk()
        for line in PLAIN:
            first = desk.ask(line)
            kept = list(first)
            first.append("more")
            self.assertEqual(desk.ask(line), kept)
            self.assertEqual(Desk().ask(line), kept)

    def test_no_later_put_changes_what_was_told(self):
        desk = Desk("hat ann 1\nhat bob 2")
        right = desk.ask("right")
        kept = list(right)
        desk.ask("put bob 1")
        desk.ask("right")
        self.assertEqual(right, kept)

    def test_one_desk_changes_nothing_at_another(self):
        one = Desk(TRIO)
        other = Desk(TRIO)
        names = ("ann", "bob", "cat")
        before = self.state(other, names)
        one.ask("put ann 1")
        one.ask("put cat 2")
        self.assertEqual(self.state(other, names), before)
        self.assertEqual(self.state(Desk(TRIO), names), before)
        between = self.state(one, names)
        other.ask("put bob 1")
        self.assertEqual(self.state(one, names), between)
        self.refused(NoName, Desk(), "guess ann")

    def test_asked_again(self):
        desk = Desk(TRIO)
        first = self.state(desk, ("ann", "bob", "cat"))
        self.assertEqual(self.state(desk, ("ann", "bob", "cat")), first)


class Arguments(unittest.TestCase):
    def test_names(self):
        told = inspect.signature(Desk).parameters
        self.assertEqual(list(told), ["text"])
        self.assertEqual(told["text"].default, "")
        self.assertEqual(list(inspect.signature(Desk.ask).parameters), ["self", "line"])
        self.assertEqual(Desk(text="hat ann 1").ask(line="sure"), ["1"])


if __name__ == "__main__":
    unittest.main()
