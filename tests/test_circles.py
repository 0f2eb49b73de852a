"""Points 4, 9 and 10: shares, and the plan of people who all see one another."""

import inspect
import itertools
import random
import unittest
from fractions import Fraction

from hatsight.circles import circle_guess, share, sure

LARGEST = 10 ** 30 - 1
# One by each of these, put together, is just 1.
JUST_ONE = (2, 3, 7, 43, 1807, 3263443, 10650056950807, 113423713055421844361000442)


def exact_share(counts):
    return sum((Fraction(1, count) for count in counts), Fraction(0))


def bounds(counts):
    exact = exact_share(counts)
    down = exact.numerator // exact.denominator
    return down, down if exact == down else down + 1


def small_counts():
    for many, largest in ((1, 12), (2, 9), (3, 6), (4, 4), (5, 3)):
        yield from itertools.product(range(1, largest + 1), repeat=many)
    yield from itertools.product((1, 2), repeat=6)
    yield from ((2,) * 7, (2,) * 8, (1,) * 8, (3, 1, 2, 1, 2, 3, 1, 2), (2, 3, 7, 42), (2, 4, 8, 8), (13, 17), (5, 7, 9))


def all_hats(counts):
    return itertools.product(*[range(count) for count in counts])


def guesses(counts, hats):
    return [circle_guess(counts, hats, i) for i in range(len(counts))]


class Shares(unittest.TestCase):
    def check(self, counts):
        with self.subTest(counts=counts):
            exact = exact_share(counts)
            told = share(counts)
            self.assertEqual(told, (exact.numerator, exact.denominator))
            self.assertIs(type(told), tuple)
            self.assertTrue(all(type(part) is int for part in told))
            self.assertEqual(sure(counts), exact.numerator // exact.denominator)
            self.assertIs(type(sure(counts)), int)

    def test_no_counts(self):
        self.assertEqual(share(()), (0, 1))
        self.assertEqual(sure(()), 0)
        self.check(())

    def test_lowest_terms(self):
        self.assertEqual(share((6, 3)), (1, 2))
        self.assertEqual(share((4, 4)), (1, 2))
        self.assertEqual(share((2, 3)), (5, 6))
        self.assertEqual(share((6, 10, 15)), (1, 3))
        self.assertEqual(share((2, 2, 2)), (3, 2))
        self.assertEqual(share((5,)), (1, 5))

    def test_just_whole_numbers(self):
        for counts, whole in (((1,), 1), ((1, 1, 1), 3), ((2, 2), 1), ((2, 3, 6), 1), ((2,) * 8, 4), ((4,) * 8, 2),
                              ((1, 2, 2), 2), ((8,) * 8, 1), ((3, 3, 3), 1), ((1,) * 8, 8), (JUST_ONE, 1)):
            self.assertEqual(share(counts), (whole, 1))
            self.assertEqual(sure(counts), whole)
            self.check(counts)

    def test_just_below_and_above_whole_numbers(self):
        below = JUST_ONE[:7] + (JUST_ONE[7] + 1,)
        above = JUST_ONE[:7] + (JUST_ONE[7] - 1,)
        self.assertEqual((sure(below), sure(above)), (0, 1))
        self.check(below)
        self.check(above)
        self.assertEqual(sure((2, 3, 7)), 0)
        self.assertEqual(sure((2, 3, 5)), 1)
        self.assertEqual(sure((1, 1, LARGEST)), 2)

    def test_small_counts(self):
        for counts in small_counts():
            self.check(counts)

    def test_counts_of_thirty_figures(self):
        for counts in ((LARGEST,), (10 ** 29,), (LARGEST,) * 8, (LARGEST, LARGEST - 1), (10 ** 29,) * 5,
                       (2, 10 ** 29), (1, LARGEST), tuple(LARGEST - i for i in range(8))):
            self.check(counts)
        chance = random.Random(13)
        for step in range(200):
            figures = chance.choice((2, 5, 30))
            self.check(tuple(chance.randrange(1, 10 ** figures) for i in range(chance.randrange(9))))

    def test_somewhat_beyond_the_bounds(self):
        self.check((2,) * 9)
        self.check((3,) * 20)
        self.check((10 ** 35 + 1, 10 ** 40))

    def test_the_order_of_counts_plays_no_part(self):
        for counts in itertools.permutations((2, 3, 4, 12)):
            self.assertEqual(share(counts), (7, 6))
            self.assertEqual(sure(counts), 1)

    def test_asked_again(self):
        for step in range(2):
            self.assertEqual(share((2, 4)), (3, 4))
            self.assertEqual(share((3,)), (1, 3))
            self.assertEqual(sure((1, 2)), 1)


class CirclePlans(unittest.TestCase):
    def check(self, counts, hats):
        down, up = bounds(counts)
        told = guesses(counts, hats)
        for guess, count in zip(told, counts):
            if type(guess) is not int or not 0 <= guess < count:
                self.fail(f"{guess!r} is no colour: {counts} {hats}")
        right = sum(guess == hat for guess, hat in zip(told, hats))
        if not down <= right <= up:
            self.fail(f"{right} are right: {counts} {hats}")
        return told

    def test_over_all_hats_of_small_counts(self):
        for counts in small_counts():
            for hats in all_hats(counts):
                self.check(counts, hats)

    def test_right_guesses_over_all_hats(self):
        for counts in ((2, 2), (2, 3), (3, 4, 5), (1, 6), (2, 2, 3, 3)):
            right = sum(guess == hat for hats in all_hats(counts) for guess, hat in zip(guesses(counts, hats), hats))
            self.assertEqual(right, exact_share(counts) * len(list(all_hats(counts))))

    def test_one_alone_guesses_the_same_always(self):
        for count in (1, 2, 3, 10, LARGEST):
            told = {circle_guess((count,), (own,), 0) for own in (0, 1, 2, 9, count - 1, count, LARGEST)}
            self.assertEqual(len(told), 1)
            self.assertTrue(0 <= min(told) < count)

    def test_a_count_of_one(self):
        for hats in all_hats((1, 3, 1, 2)):
            self.assertEqual(circle_guess((1, 3, 1, 2), hats, 0), 0)
            self.assertEqual(circle_guess((1, 3, 1, 2), hats, 2), 0)

    def own_place_plays_no_part(self, counts, hats):
        for i, told in enumerate(guesses(counts, hats)):
            for own in (0, 1, counts[i] - 1, counts[i], counts[i] + 1, 12345, 10 ** 29, LARGEST, 10 ** 33):
                other = hats[:i] + (own,) + hats[i + 1:]
                self.assertEqual(circle_guess(counts, other, i), told, (counts, other, i))

    def test_the_own_place_plays_no_part(self):
        for counts in ((1,), (2,), (2, 2), (3, 5), (2, 3, 4), (4, 1, 3), (2, 2, 2, 2)):
            for hats in all_hats(counts):
                self.own_place_plays_no_part(counts, hats)

    def test_large_counts(self):
        chance = random.Random(14)
        several = [JUST_ONE, JUST_ONE[::-1], (LARGEST,), (LARGEST, LARGEST), (LARGEST,) * 8, (10 ** 29,) * 3]
        several.extend([(1, LARGEST), (2, 2, LARGEST), (LARGEST, 2, 3, 6), (2, LARGEST, LARGEST - 1, 2)])
        several.append(tuple(LARGEST - i for i in range(8)))
        several.append(JUST_ONE[:7] + (JUST_ONE[7] - 1,))
        several.append(JUST_ONE[:7] + (JUST_ONE[7] + 1,))
        for step in range(20):
            several.append(tuple(chance.randrange(1, 10 ** chance.choice((1, 2, 30))) for i in range(8)))
        for counts in several:
            for step in range(6):
                hats = tuple(chance.randrange(count) for count in counts)
                self.near(counts, hats)
            self.near(counts, (0,) * len(counts))
            self.near(counts, tuple(count - 1 for count in counts))
            self.own_place_plays_no_part(counts, tuple(chance.randrange(count) for count in counts))

    # Of large counts chance hardly meets hats at which somebody is right, or nearly so.
    def near(self, counts, hats):
        told = self.check(counts, hats)
        for i, count in enumerate(counts):
            for own in (told[i], (told[i] + 1) % count, (told[i] - 1) % count):
                self.check(counts, hats[:i] + (own,) + hats[i + 1:])

    def test_somewhat_beyond_the_bounds(self):
        for counts in ((2,) * 9, (3, 2, 1) * 4, (10 ** 33, 10 ** 34 + 1, 2, 2)):
            chance = random.Random(15)
            for step in range(20):
                self.near(counts, tuple(chance.randrange(count) for count in counts))

    def test_the_same_counts_have_the_same_plan(self):
        asked = [(counts, hats, i) for counts in ((2, 3), (3, 2), (2, 3, 4), (2, 2, 2))
                 for hats in all_hats(counts) for i in range(len(counts))]
        first = [circle_guess(*one) for one in asked]
        again = [circle_guess(tuple(counts), tuple(hats), i) for counts, hats, i in reversed(asked)]
        self.assertEqual(first, again[::-1])


class Arguments(unittest.TestCase):
    def test_names(self):
        for function, names in ((share, ["counts"]), (sure, ["counts"]), (circle_guess, ["counts", "hats", "i"])):
            self.assertEqual(list(inspect.signature(function).parameters), names)


if __name__ == "__main__":
    unittest.main()
