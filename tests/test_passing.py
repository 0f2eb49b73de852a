"""Points 4 and 19 to 21: people with two colours each who guess or pass."""

import inspect
import itertools
import random
import unittest

from hatsight.passing import active, is_bad, pass_guess, score
from hatsight.tables import code


def active_by_the_document(many):
    return max((1 << power) - 1 for power in range(many + 1) if (1 << power) - 1 <= many)


def guesses(many, hats):
    return [pass_guess(many, i, hats) for i in range(many)]


def colour(hats, i):
    return (hats >> i) & 1


# All that a person may be handed for the same seen hats.
def both_ways(hats, i):
    return (hats | (1 << i), hats & ~(1 << i))


def turned_about(many, hats):
    return [hats] + [hats ^ (1 << i) for i in range(active_by_the_document(many))]


class Active(unittest.TestCase):
    def test_the_edges(self):
        for many, expected in ((1, 1), (2, 1), (3, 3), (4, 3), (5, 3), (6, 3), (7, 7), (8, 7), (14, 7), (15, 15),
                               (16, 15), (30, 15), (31, 31), (32, 31), (61, 31), (62, 31), (63, 63)):
            self.assertEqual(active(many), expected)

    def test_all(self):
        for many in range(1, 64):
            self.assertEqual(active(many), active_by_the_document(many))
            self.assertIs(type(active(many)), int)

    def test_somewhat_beyond_the_bounds(self):
        for many in (0, 64, 65, 100, 126, 127, 128):
            self.assertEqual(active(many), active_by_the_document(many))


class Plans(unittest.TestCase):
    def check(self, many, hats):
        told = guesses(many, hats)
        for guess in told:
            if guess is not None and (type(guess) is not int or guess not in (0, 1)):
                self.fail(f"{guess!r} is no guess: {many} {hats}")
        crowd = active_by_the_document(many)
        guessing = [i for i, guess in enumerate(told) if guess is not None]
        right = [i for i in guessing if told[i] == colour(hats, i)]
        bad = is_bad(many, hats)
        self.assertIs(type(bad), bool)
        expected = (list(range(crowd)), []) if bad else (right[:1], right[:1])
        if (guessing, right) != expected or not guessing:
            self.fail(f"{guessing} guess, {right} rightly: {many} {hats} {bad}")
        bads = [other for other in turned_about(many, hats) if is_bad(many, other)]
        self.assertEqual(len(bads), 1, (many, hats))
        return bads[0]

    def own_place_plays_no_part(self, many, hats):
        for i in range(many):
            told = [pass_guess(many, i, other) for other in both_ways(hats, i)]
            if told[0] != told[1]:
                self.fail(f"{told}: {many} {i} {hats}")

    def test_over_all_hats_of_up_to_ten(self):
        for many in range(1, 11):
            bad = 0
            for hats in range(1 << many):
                self.check(many, hats)
                self.own_place_plays_no_part(many, hats)
                bad += is_bad(many, hats)
            self.assertEqual(bad * (active_by_the_document(many) + 1), 1 << many)

    def chosen_hats(self, chance, many):
        whole = (1 << many) - 1
        chosen = [0, whole, whole & int("01" * 64, 2), whole & int("10" * 64, 2)]
        chosen.extend(1 << i for i in range(many))
        chosen.extend(whole ^ (1 << i) for i in range(many))
        chosen.extend(chance.randrange(whole + 1) for step in range(20))
        return chosen

    def check_chosen(self, chance, many):
        for hats in self.chosen_hats(chance, many):
            bad = self.check(many, hats)
            self.assertEqual(self.check(many, bad), bad)
            self.own_place_plays_no_part(many, hats)

    def test_chosen_hats_of_up_to_sixty_three(self):
        chance = random.Random(38)
        for many in (11, 13, 14, 15, 16, 30, 31, 32, 47, 61, 62, 63):
            self.check_chosen(chance, many)

    def test_somewhat_beyond_the_bounds(self):
        chance = random.Random(39)
        for many in (64, 70):
            self.check_chosen(chance, many)

    def test_hats_of_all_lengths_from_bad_ones(self):
        chance = random.Random(40)
        for many in range(1, 64):
            bad = self.check(many, chance.randrange(1 << many))
            for i in chance.sample(range(many), min(many, 5)):
                turned = bad ^ (1 << i)
                self.check(many, turned)
                # Of a hat of somebody who is not active nothing hangs.
                self.assertEqual(is_bad(many, turned), i >= active_by_the_document(many))

    def test_who_is_not_active_passes_always(self):
        chance = random.Random(41)
        for many in range(1, 64):
            for hats in [0, (1 << many) - 1] + [chance.randrange(1 << many) for step in range(10)]:
                for i in range(active_by_the_document(many), many):
                    self.assertIsNone(pass_guess(many, i, hats))
                    self.assertIsNone(pass_guess(many, i, hats ^ (1 << i)))

    def test_hats_of_those_who_are_not_active_play_no_part(self):
        for many in (2, 4, 5, 6, 8, 9):
            crowd = active_by_the_document(many)
            for hats in range(1 << many):
                within = hats & ((1 << crowd) - 1)
                self.assertEqual(is_bad(many, hats), is_bad(many, within))

    def test_one_alone(self):
        bad = [hats for hats in (0, 1) if is_bad(1, hats)]
        self.assertEqual(len(bad), 1)
        self.assertEqual({pass_guess(1, 0, hats) for hats in (0, 1)}, {1 - bad[0]})

    def test_the_same_number_of_people_has_the_same_plan(self):
        asked = [(many, i, hats) for many in range(1, 8) for hats in range(1 << many) for i in range(many)]
        first = [pass_guess(*one) for one in asked]
        again = [pass_guess(*one) for one in reversed(asked)]
        self.assertEqual(first, again[::-1])
        self.assertEqual([is_bad(5, hats) for hats in range(32)], [is_bad(5, hats) for hats in range(32)])


def code_by_the_document(hats, i, many):
    others = [j for j in range(many) if j != i]
    return sum(colour(hats, j) * (1 << place) for place, j in enumerate(others))


def score_by_the_document(many, plan):
    wins = 0
    rights = 0
    wrongs = 0
    for hats in range(1 << many):
        said = [(plan[i][code_by_the_document(hats, i, many)], colour(hats, i)) for i in range(many)]
        right = sum(guess is not None and guess == own for guess, own in said)
        wrong = sum(guess is not None and guess != own for guess, own in said)
        wins += right > 0 and wrong == 0
        rights += right
        wrongs += wrong
    return (wins, rights, wrongs)


def all_plans(many):
    return itertools.product(itertools.product((0, 1, None), repeat=1 << (many - 1)), repeat=many)


def chance_plan(chance, many, choices):
    return tuple(tuple(chance.choice(choices) for number in range(1 << (many - 1))) for i in range(many))


# Person i's table, each place filled with what is guessed at hats of that code.
def plan_by(many, guess):
    tables = []
    for i in range(many):
        table = [None] * (1 << (many - 1))
        for hats in range(1 << many):
            table[code_by_the_document(hats, i, many)] = guess(many, i, hats)
        tables.append(tuple(table))
    return tuple(tables)


class Scores(unittest.TestCase):
    def check(self, many, plan):
        answer = score(many, plan)
        if answer != score_by_the_document(many, plan):
            self.fail(f"{answer}: {many} {plan}")
        self.assertIs(type(answer), tuple)
        self.assertTrue(all(type(part) is int for part in answer))
        wins, right, wrong = answer
        self.assertEqual(right, wrong)
        self.assertLessEqual(wins, ((1 << many) - wins) * many)
        return answer

    def test_everybody_passes_always(self):
        for many in range(1, 7):
            self.assertEqual(self.check(many, ((None,) * (1 << (many - 1)),) * many), (0, 0, 0))

    def test_one_alone(self):
        self.assertEqual(score(1, ((0,),)), (1, 1, 1))
        self.assertEqual(score(1, ((1,),)), (1, 1, 1))
        self.assertEqual(score(1, ((None,),)), (0, 0, 0))

    def test_written_plans(self):
        self.assertEqual(score(2, ((0, 0), (None, None))), (2, 2, 2))
        self.assertEqual(score(2, ((0, 1), (None, None))), (2, 2, 2))
        self.assertEqual(score(2, ((0, 1), (0, 1))), (2, 4, 4))
        self.assertEqual(score(2, ((0, 1), (1, 0))), (0, 4, 4))
        self.assertEqual(score(2, ((None, 0), (None, 0))), (2, 2, 2))
        self.assertEqual(score(2, ((0, 0), (0, 0))), (1, 4, 4))
        self.assertEqual(score(3, ((1, None, None, 0),) * 3), (6, 6, 6))

    def test_all_plans_of_one_and_of_two(self):
        for many in (1, 2):
            for plan in all_plans(many):
                self.check(many, plan)

    def test_one_alone_guesses(self):
        for many in range(1, 7):
            for i in range(many):
                plan = tuple(((1, 0) * (1 << many))[:1 << (many - 1)] if j == i else (None,) * (1 << (many - 1))
                             for j in range(many))
                half = 1 << (many - 1)
                self.assertEqual(self.check(many, plan), (half, half, half))

    def test_many_plans(self):
        chance = random.Random(42)
        for many in range(1, 7):
            for choices in ((0, 1, None), (0, 1), (0, None), (1, None), (0, 1, None, None, None), (0,), (1,)):
                for step in range(30):
                    self.check(many, chance_plan(chance, many, choices))

    # A single guess tells at which hats its code stands.
    def test_a_single_guess(self):
        for many in range(1, 7):
            for i in range(many):
                for number in range(1 << (many - 1)):
                    tables = [[None] * (1 << (many - 1)) for j in range(many)]
                    tables[i][number] = number % 2
                    self.assertEqual(self.check(many, tuple(tuple(table) for table in tables)), (1, 1, 1))

    def test_the_plan_told(self):
        for many in range(1, 7):
            crowd = active_by_the_document(many)
            lost = (1 << many) // (crowd + 1)
            plan = plan_by(many, pass_guess)
            self.assertEqual(self.check(many, plan), ((1 << many) - lost, (1 << many) - lost, lost * crowd))

    # Of one and of three all are active: no plan whatever wins at more hats.
    def test_no_plan_wins_more_where_all_are_active(self):
        self.assertEqual(max(score(1, plan)[0] for plan in all_plans(1)), score(1, plan_by(1, pass_guess))[0])
        most = score(3, plan_by(3, pass_guess))[0]
        chance = random.Random(43)
        for step in range(2000):
            self.assertLessEqual(score(3, chance_plan(chance, 3, (0, 1, None, None)))[0], most)

    # The code is that of the tables of plans.
    def test_codes_as_of_plans_with_two_colours(self):
        for many in range(1, 7):
            web = tuple(((1 << many) - 1) ^ (1 << i) for i in range(many))
            for hats in range(1 << many):
                wide = tuple(colour(hats, i) for i in range(many))
                for i in range(many):
                    self.assertEqual(code((2,) * many, web, wide, i), code_by_the_document(hats, i, many))

    def test_somewhat_beyond_the_bounds(self):
        chance = random.Random(44)
        self.assertEqual(score(0, ()), (0, 0, 0))
        for many in (7, 8):
            self.check(many, chance_plan(chance, many, (0, 1, None, None)))
        plan = plan_by(7, pass_guess)
        self.assertEqual(self.check(7, plan), (112, 112, 112))

    def test_asked_again(self):
        plan = plan_by(4, pass_guess)
        first = score(4, plan)
        self.assertEqual(score(2, ((0, 0), (0, 0))), (1, 4, 4))
        self.assertEqual(score(4, plan), first)


class Arguments(unittest.TestCase):
    def test_names(self):
        for function, names in ((active, ["many"]), (pass_guess, ["many", "i", "others"]), (is_bad, ["many", "hats"]),
                                (score, ["many", "plan"])):
            self.assertEqual(list(inspect.signature(function).parameters), names)


if __name__ == "__main__":
    unittest.main()
