"""Points 4 and 11: rings of people with two colours each."""

import inspect
import itertools
import random
import unittest

from hatsight.rings import ring_guess


def guesses(hats):
    many = len(hats)
    return [ring_guess(many, i, hats[(i + 1) % many]) for i in range(many)]


def right_ones(hats):
    return [i for i, guess in enumerate(guesses(hats)) if guess == hats[i]]


# From the place 0 backwards each hat is set against the guess of its place: if any hats
# make all wrong, these do.
def worst_hats(many, start):
    hats = [start] * many
    for i in reversed(range(1, many)):
        hats[i] = 1 - ring_guess(many, i, hats[(i + 1) % many])
    return tuple(hats)


class Rings(unittest.TestCase):
    def check(self, hats):
        if not right_ones(hats):
            self.fail(f"nobody is right: {hats}")

    def test_each_guess_is_a_colour(self):
        for many in list(range(2, 61)) + [61, 64, 100]:
            for i in range(many):
                for seen in (0, 1):
                    guess = ring_guess(many, i, seen)
                    self.assertIs(type(guess), int)
                    self.assertIn(guess, (0, 1))

    def test_over_all_hats_of_small_rings(self):
        for many in range(2, 13):
            for hats in itertools.product((0, 1), repeat=many):
                self.check(hats)

    def test_worst_hats_of_every_ring(self):
        for many in list(range(2, 61)) + [61, 64, 65, 100]:
            for start in (0, 1):
                self.check(worst_hats(many, start))

    def test_hats_all_alike_all_but_one_and_by_turns(self):
        for many in (2, 3, 4, 5, 59, 60):
            for colour in (0, 1):
                self.check((colour,) * many)
                self.check(tuple((colour + i) % 2 for i in range(many)))
                for other in range(many):
                    self.check(tuple(1 - colour if i == other else colour for i in range(many)))

    def test_many_hats_of_sixty(self):
        chance = random.Random(16)
        for step in range(300):
            self.check(tuple(chance.randrange(2) for i in range(60)))

    # Each guess is right at half of all hats, whatever the plan is.
    def test_right_guesses_over_all_hats(self):
        for many in range(2, 10):
            right = sum(len(right_ones(hats)) for hats in itertools.product((0, 1), repeat=many))
            self.assertEqual(right, many << (many - 1))

    def test_the_same_number_of_people_has_the_same_plan(self):
        asked = [(many, i, seen) for many in range(2, 61) for i in range(many) for seen in (0, 1)]
        first = [ring_guess(*one) for one in asked]
        again = [ring_guess(*one) for one in reversed(asked)]
        self.assertEqual(first, again[::-1])


class Arguments(unittest.TestCase):
    def test_names(self):
        self.assertEqual(list(inspect.signature(ring_guess).parameters), ["many", "i", "seen"])
        self.assertEqual(ring_guess(many=3, i=1, seen=0), ring_guess(3, 1, 0))


if __name__ == "__main__":
    unittest.main()
