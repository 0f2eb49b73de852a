"""Points 4 and 18: people in a row who hear all earlier guesses."""

import inspect
import itertools
import random
import unittest

from hatsight.errors import HatError, NoPlan
from hatsight.rows import row_guess

LARGEST = 10 ** 30 - 1


def all_hats(counts):
    return itertools.product(*[range(count) for count in counts])


def spoken(counts, hats):
    heard = ()
    for i in range(len(counts)):
        heard = heard + (row_guess(counts, i, heard, tuple(hats[i + 1:])),)
    return heard


class Rows(unittest.TestCase):
    def check(self, counts, hats):
        heard = spoken(counts, hats)
        for guess, count in zip(heard, counts):
            if type(guess) is not int or not 0 <= guess < count:
                self.fail(f"{guess!r} is no colour: {counts} {hats}")
        self.assertEqual(heard[1:], tuple(hats[1:]), (counts, hats))

    def check_some(self, counts, chance, steps):
        self.check(counts, (0,) * len(counts))
        self.check(counts, tuple(count - 1 for count in counts))
        for step in range(steps):
            self.check(counts, tuple(chance.randrange(count) for count in counts))

    def test_one_alone(self):
        for count in (1, 2, 5, LARGEST):
            guess = row_guess((count,), 0, (), ())
            self.assertIs(type(guess), int)
            self.assertTrue(0 <= guess < count)

    def test_two(self):
        for first in range(1, 8):
            for second in range(1, first + 1):
                for hats in all_hats((first, second)):
                    self.check((first, second), hats)

    def test_over_all_hats_of_small_rows(self):
        for many, largest in ((3, 5), (4, 3), (5, 3)):
            for counts in itertools.product(range(1, largest + 1), repeat=many):
                if max(counts) == counts[0]:
                    for hats in all_hats(counts):
                        self.check(counts, hats)
        for hats in all_hats((2,) * 10):
            self.check((2,) * 10, hats)

    def test_the_first_count_greatest_or_as_great_as_another(self):
        chance = random.Random(17)
        for counts in ((9, 8, 7), (9, 9), (9, 1, 9, 2, 9), (9,) * 8, (9, 1, 1), (1, 1, 1), (6, 4, 6, 5)):
            self.check_some(counts, chance, 50)

    def test_sixty(self):
        chance = random.Random(18)
        for counts in ((2,) * 60, (1,) * 60, (7,) + (3,) * 59, tuple(range(60, 0, -1)), (60,) + tuple(range(2, 61)),
                       (LARGEST,) * 60, (LARGEST,) + (2,) * 59, (LARGEST,) + tuple(LARGEST - i for i in range(59))):
            self.check_some(counts, chance, 10)

    def test_counts_of_thirty_figures(self):
        chance = random.Random(19)
        for counts in ((LARGEST, LARGEST), (LARGEST, 10 ** 29, 2), (10 ** 29, 10 ** 29 - 1, 1, 10 ** 29), (LARGEST,) * 8):
            self.check_some(counts, chance, 50)

    def test_somewhat_beyond_the_bounds(self):
        chance = random.Random(20)
        for counts in ((3,) * 61, (5,) + (4,) * 80, (10 ** 33, 10 ** 32, 10 ** 33)):
            self.check_some(counts, chance, 10)

    def test_asked_again(self):
        counts = (4, 3, 4, 2)
        asked = [(counts, i, spoken(counts, hats)[:i], hats[i + 1:]) for hats in all_hats(counts) for i in range(4)]
        first = [row_guess(*one) for one in asked]
        again = [row_guess(*one) for one in reversed(asked)]
        self.assertEqual(first, again[::-1])


class Refusals(unittest.TestCase):
    def refused_at_every_place(self, counts):
        for i in range(len(counts)):
            with self.subTest(counts=counts, i=i):
                with self.assertRaises(HatError) as caught:
                    row_guess(counts, i, (0,) * i, (0,) * (len(counts) - i - 1))
                self.assertIs(type(caught.exception), NoPlan)

    def test_a_later_count_is_greater(self):
        for counts in ((1, 2), (2, 3), (2, 2, 3), (2, 3, 2), (3, 1, 1, 4), (5, 5, 5, 5, 5, 5, 5, 6)):
            self.refused_at_every_place(counts)

    def test_all_small_rows(self):
        for many in (2, 3, 4):
            for counts in itertools.product((1, 2, 3), repeat=many):
                if max(counts) > counts[0]:
                    self.refused_at_every_place(counts)

    def test_counts_of_thirty_figures(self):
        self.refused_at_every_place((LARGEST - 1, LARGEST))
        self.refused_at_every_place((2, LARGEST, 2))
        self.refused_at_every_place((10 ** 29, 3, 10 ** 29 + 1))

    def test_sixty(self):
        self.refused_at_every_place((2,) * 59 + (3,))
        self.refused_at_every_place((2, 3) + (2,) * 58)

    def test_what_was_refused_changes_nothing(self):
        before = row_guess((3, 2), 0, (), (1,))
        self.refused_at_every_place((2, 3))
        self.assertEqual(row_guess((3, 2), 0, (), (1,)), before)


class Arguments(unittest.TestCase):
    def test_names(self):
        self.assertEqual(list(inspect.signature(row_guess).parameters), ["counts", "i", "heard", "later"])
        self.assertEqual(row_guess(counts=(3, 2), i=0, heard=(), later=(1,)), row_guess((3, 2), 0, (), (1,)))


if __name__ == "__main__":
    unittest.main()
