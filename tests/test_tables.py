"""Points 4 and 14 to 17: plans as tables, what is right by them, hats against them, plans of groups."""

import inspect
import itertools
import math
import random
import unittest
from fractions import Fraction

from hatsight.circles import circle_guess
from hatsight.groups import best_groups, group_fault, made_sure
from hatsight.rings import ring_guess
from hatsight.tables import code, fewest, foe, plan_of, rights, told
from hatsight.webs import sight_order

# The products of these are at most 256.
SEVERAL = ((), (1,), (2,), (7,), (256,), (2, 2), (2, 3), (1, 3), (16, 16), (2, 128), (2, 3, 4), (3, 1, 2), (1, 1, 1),
           (2, 2, 2, 2), (3, 4, 5, 4), (2, 3, 2, 3, 2), (2,) * 6, (1, 2, 3, 1, 2, 1, 3, 2), (2,) * 8)


def all_hats(counts):
    return list(itertools.product(*[range(count) for count in counts]))


def all_webs(many):
    masks = [[mask for mask in range(1 << many) if not mask & (1 << i)] for i in range(many)]
    return itertools.product(*masks)


def full_web(many):
    return tuple(((1 << many) - 1) & ~(1 << i) for i in range(many))


def web_of(many, sights):
    masks = [0] * many
    for i, j in sights:
        masks[i] |= 1 << j
    return tuple(masks)


def chance_web(chance, many, of=0.5):
    return web_of(many, [(i, j) for i in range(many) for j in range(many) if i != j and chance.random() < of])


def ordered_web(chance, many):
    rank = chance.sample(range(many), many)
    return web_of(many, [(i, j) for i in range(many) for j in range(many) if rank[j] < rank[i] and chance.randrange(3)])


def seen_by(web, i):
    return [j for j in range(len(web)) if web[i] & (1 << j)]


def codes_of(counts, web, i):
    return math.prod(counts[j] for j in seen_by(web, i))


def code_by_the_document(counts, web, hats, i):
    seen = seen_by(web, i)
    return sum(hats[j] * math.prod(counts[k] for k in seen[:place]) for place, j in enumerate(seen))


def chance_plan(chance, counts, web):
    return tuple(tuple(chance.randrange(count) for number in range(codes_of(counts, web, i)))
                 for i, count in enumerate(counts))


def all_plans(counts, web):
    tables = [itertools.product(range(count), repeat=codes_of(counts, web, i)) for i, count in enumerate(counts)]
    return itertools.product(*tables)


def right_at(counts, web, plan, hats):
    return sum(plan[i][code_by_the_document(counts, web, hats, i)] == hats[i] for i in range(len(counts)))


def rights_by_counts(counts):
    whole = math.prod(counts)
    return sum(whole // count for count in counts)


def share_down(counts):
    exact = sum((Fraction(1, count) for count in counts), Fraction(0))
    return exact.numerator // exact.denominator


def cases(seed, steps):
    chance = random.Random(seed)
    for counts in SEVERAL:
        for step in range(steps):
            web = chance_web(chance, len(counts), chance.choice((0.2, 0.5, 0.9)))
            yield counts, web, chance_plan(chance, counts, web)
        for web in ((0,) * len(counts), full_web(len(counts))):
            yield counts, web, chance_plan(chance, counts, web)


class Codes(unittest.TestCase):
    def test_nobody_is_seen(self):
        for hats in all_hats((3, 4)):
            self.assertEqual(code((3, 4), (0, 0), hats, 0), 0)
            self.assertEqual(code((3, 4), (0, 1), hats, 0), 0)
        self.assertEqual(code((5,), (0,), (4,), 0), 0)
        self.assertIs(type(code((5,), (0,), (4,), 0)), int)

    def test_some(self):
        self.assertEqual(code((2, 3, 4), (6, 5, 3), (0, 2, 3), 0), 2 + 3 * 3)
        self.assertEqual(code((2, 3, 4), (6, 5, 3), (1, 2, 3), 1), 1 + 3 * 2)
        self.assertEqual(code((2, 3, 4), (6, 5, 3), (1, 2, 3), 2), 1 + 2 * 2)
        self.assertEqual(code((5, 2, 3, 4), (14, 0, 0, 0), (0, 1, 2, 3), 0), 1 + 2 * 2 + 3 * 6)
        self.assertEqual(code((5, 2, 3, 4), (10, 0, 0, 0), (0, 1, 2, 3), 0), 1 + 3 * 2)

    def test_by_the_document(self):
        for counts, web, plan in cases(24, 3):
            for hats in all_hats(counts):
                for i in range(len(counts)):
                    answer = code(counts, web, hats, i)
                    self.assertEqual(answer, code_by_the_document(counts, web, hats, i), (counts, web, hats, i))
                    self.assertIs(type(answer), int)

    def test_unlike_for_unlike_seen_hats_alone(self):
        for counts, web, plan in cases(25, 3):
            for i in range(len(counts)):
                by_seen = {}
                for hats in all_hats(counts):
                    seen = tuple(hats[j] for j in seen_by(web, i))
                    number = code(counts, web, hats, i)
                    self.assertEqual(by_seen.setdefault(seen, number), number)
                self.assertEqual(sorted(by_seen.values()), list(range(codes_of(counts, web, i))))


class Told(unittest.TestCase):
    def test_nobody(self):
        self.assertEqual(told((), (), (), ()), ())
        self.assertIs(type(told((), (), (), ())), tuple)

    def test_each_by_the_own_code(self):
        for counts, web, plan in cases(26, 3):
            for hats in all_hats(counts):
                answer = told(counts, web, plan, hats)
                self.assertIs(type(answer), tuple)
                expected = tuple(plan[i][code_by_the_document(counts, web, hats, i)] for i in range(len(counts)))
                self.assertEqual(answer, expected, (counts, web, hats))

    def test_a_written_plan(self):
        plan = ((0, 1, 1), (2, 0))
        self.assertEqual(told((2, 3), (2, 1), plan, (0, 0)), (0, 2))
        self.assertEqual(told((2, 3), (2, 1), plan, (1, 2)), (1, 0))
        self.assertEqual(told((2, 3), (2, 1), plan, (0, 1)), (1, 2))


class Rights(unittest.TestCase):
    def check(self, counts, web, plan):
        answer = rights(counts, web, plan)
        self.assertIs(type(answer), int)
        self.assertEqual(answer, rights_by_counts(counts), (counts, web, plan))
        self.assertEqual(answer, sum(right_at(counts, web, plan, hats) for hats in all_hats(counts)))

    def test_nobody(self):
        self.assertEqual(rights((), (), ()), 0)
        self.check((), (), ())

    def test_some(self):
        self.assertEqual(rights((2, 3), (0, 0), ((1,), (2,))), 5)
        self.assertEqual(rights((2, 3), (2, 1), ((0, 1, 1), (2, 0))), 5)
        self.assertEqual(rights((7,), (0,), ((3,),)), 1)

    def test_any_plan(self):
        for counts, web, plan in cases(27, 4):
            self.check(counts, web, plan)

    def test_all_plans_of_few(self):
        for counts, web in (((2, 2), (2, 1)), ((2, 3), (2, 1)), ((3, 2), (2, 0)), ((2, 2), (0, 0)), ((2, 1, 2), (4, 0, 3))):
            for plan in all_plans(counts, web):
                self.check(counts, web, plan)

    def test_somewhat_beyond_the_bounds(self):
        chance = random.Random(28)
        for counts in ((2,) * 9, (300,), (17, 16)):
            web = full_web(len(counts))
            self.check(counts, web, chance_plan(chance, counts, web))


class Fewest(unittest.TestCase):
    def check(self, counts, web, plan):
        answer = fewest(counts, web, plan)
        self.assertIs(type(answer), tuple)
        self.assertEqual(len(answer), 2)
        many, hats = answer
        where = (counts, web, plan, answer)
        self.assertIs(type(many), int)
        self.assertIs(type(hats), tuple)
        self.assertTrue(all(type(hat) is int for hat in hats), where)
        self.assertIn(hats, all_hats(counts), where)
        self.assertEqual(right_at(counts, web, plan, hats), many, where)
        self.assertEqual(min(right_at(counts, web, plan, other) for other in all_hats(counts)), many, where)
        self.assertLessEqual(many, share_down(counts), where)

    def test_nobody(self):
        self.assertEqual(fewest((), (), ()), (0, ()))

    def test_one_alone(self):
        self.assertEqual(fewest((1,), (0,), ((0,),)), (1, (0,)))
        self.assertEqual(fewest((2,), (0,), ((0,),)), (0, (1,)))
        self.assertEqual(fewest((2,), (0,), ((1,),)), (0, (0,)))

    def test_any_plan(self):
        for counts, web, plan in cases(29, 4):
            self.check(counts, web, plan)

    # One who guesses to be like the other and one who guesses to be unlike: one is right always.
    def test_where_one_is_right_always(self):
        self.assertEqual(fewest((2, 2), (2, 1), ((0, 1), (1, 0)))[0], 1)
        self.assertEqual(fewest((1, 2), (0, 1), ((0,), (1,))), (1, (0, 0)))

    def test_no_plan_of_few_makes_more_sure_than_the_counts(self):
        for counts, web in (((2, 2), (2, 1)), ((2, 3), (2, 1)), ((3, 2), (2, 0)), ((1, 2, 2), (0, 4, 2)),
                            ((2, 2, 2), (2, 4, 1)), ((2, 2, 1), (2, 1, 0))):
            most = 0
            for plan in all_plans(counts, web):
                self.check(counts, web, plan)
                most = max(most, fewest(counts, web, plan)[0])
            self.assertEqual(most, made_sure(counts, best_groups(counts, web)))

    def test_no_plan_of_three_makes_more_sure_than_the_counts(self):
        web = full_web(3)
        most = max(fewest((2, 2, 2), web, plan)[0] for plan in all_plans((2, 2, 2), web))
        self.assertEqual(most, 1)

    def test_somewhat_beyond_the_bounds(self):
        chance = random.Random(30)
        for counts in ((2,) * 9, (300,), (17, 16)):
            web = full_web(len(counts))
            self.check(counts, web, chance_plan(chance, counts, web))


class Foes(unittest.TestCase):
    def check(self, counts, web, plan):
        hats = foe(counts, web, plan)
        where = (counts, web, plan, hats)
        self.assertIs(type(hats), tuple, where)
        self.assertEqual(len(hats), len(counts), where)
        self.assertTrue(all(type(hat) is int and 0 <= hat < count for hat, count in zip(hats, counts)), where)
        self.assertEqual(right_at(counts, web, plan, hats), 0, where)

    def test_nobody(self):
        self.assertEqual(foe((), (), ()), ())
        self.assertIs(type(foe((), (), ())), tuple)

    def test_one_alone(self):
        self.assertEqual(foe((2,), (0,), ((0,),)), (1,))
        self.assertEqual(foe((2,), (0,), ((1,),)), (0,))
        for guess in range(7):
            self.check((7,), (0,), ((guess,),))

    def test_all_plans_of_few(self):
        for counts, web in (((2, 2), (0, 0)), ((2, 2), (2, 0)), ((2, 3), (0, 1)), ((3, 2), (2, 0)), ((2, 2, 2), (0, 1, 3)),
                            ((2, 2, 2), (6, 4, 0)), ((2, 2, 2), (2, 0, 3)), ((2, 3, 2), (4, 5, 0))):
            self.assertIsNotNone(sight_order(web))
            for plan in all_plans(counts, web):
                self.check(counts, web, plan)

    def test_many_plans(self):
        chance = random.Random(31)
        for counts in ((2,) * 8, (2, 3, 2, 3, 2), (4, 4, 4, 4), (3, 4, 5, 4), (16, 16), (2, 128), (256,), (2, 2, 2, 3, 5, 2)):
            for step in range(60):
                web = ordered_web(chance, len(counts))
                self.check(counts, web, chance_plan(chance, counts, web))

    def test_all_webs_of_three(self):
        chance = random.Random(32)
        for web in all_webs(3):
            for counts in ((2, 2, 2), (2, 3, 4)):
                for step in range(5):
                    plan = chance_plan(chance, counts, web)
                    if sight_order(web) is None:
                        self.assertIsNone(foe(counts, web, plan))
                    else:
                        self.check(counts, web, plan)

    def test_none_where_the_web_has_a_ring(self):
        self.assertIsNone(foe((2, 2), (2, 1), ((0, 0), (0, 0))))
        self.assertIsNone(foe((2, 2), (2, 1), ((0, 1), (1, 0))))
        web = web_of(5, [(0, 1), (1, 2), (2, 3), (3, 1), (3, 4)])
        chance = random.Random(33)
        self.assertIsNone(foe((2,) * 5, web, chance_plan(chance, (2,) * 5, web)))
        for many in range(2, 9):
            web = web_of(many, [(i, (i + 1) % many) for i in range(many)])
            self.assertIsNone(foe((2,) * many, web, ((0, 0),) * many))

    def test_none_where_a_count_is_one(self):
        self.assertIsNone(foe((1,), (0,), ((0,),)))
        for place in range(3):
            counts = tuple(1 if i == place else 3 for i in range(3))
            for web in ((0, 0, 0), (0, 1, 3), (6, 4, 0), full_web(3)):
                self.assertIsNone(foe(counts, web, chance_plan(random.Random(34), counts, web)))

    def test_somewhat_beyond_the_bounds(self):
        chance = random.Random(35)
        for counts in ((2,) * 9, (300,), (17, 16)):
            web = ordered_web(chance, len(counts))
            self.check(counts, web, chance_plan(chance, counts, web))


def guess_by_groups(counts, groups, hats, i):
    for kind, people in groups:
        if i in people:
            place = people.index(i)
            if kind == "circle":
                return circle_guess(tuple(counts[j] for j in people), tuple(hats[j] for j in people), place)
            return ring_guess(len(people), place, hats[(people + people)[place + 1]])
    return 0


class Plans(unittest.TestCase):
    def check(self, counts, web, groups):
        self.assertIsNone(group_fault(counts, web, groups))
        plan = plan_of(counts, web, groups)
        where = (counts, web, groups, plan)
        self.assertIs(type(plan), tuple)
        self.assertEqual(len(plan), len(counts), where)
        for i, table in enumerate(plan):
            self.assertIs(type(table), tuple)
            self.assertEqual(len(table), codes_of(counts, web, i), where)
            self.assertTrue(all(type(guess) is int and 0 <= guess < counts[i] for guess in table), where)
        for hats in all_hats(counts):
            expected = tuple(guess_by_groups(counts, groups, hats, i) for i in range(len(counts)))
            guesses = tuple(plan[i][code_by_the_document(counts, web, hats, i)] for i in range(len(counts)))
            self.assertEqual(guesses, expected, where)
            self.assertGreaterEqual(right_at(counts, web, plan, hats), made_sure(counts, groups), where)
        self.assertEqual(told(counts, web, plan, (0,) * len(counts)),
                         tuple(guess_by_groups(counts, groups, (0,) * len(counts), i) for i in range(len(counts))))
        self.assertGreaterEqual(fewest(counts, web, plan)[0], made_sure(counts, groups))
        self.assertEqual(plan_of(counts, web, groups), plan)

    def test_nobody(self):
        self.assertEqual(plan_of((), (), ()), ())
        self.assertIs(type(plan_of((), (), ())), tuple)

    def test_no_groups(self):
        self.assertEqual(plan_of((2, 3), (2, 1), ()), ((0, 0, 0), (0, 0)))
        self.assertEqual(plan_of((2, 3, 4), (0, 0, 0), ()), ((0,), (0,), (0,)))

    def test_circles(self):
        self.check((2, 2), (2, 1), (("circle", (0, 1)),))
        self.check((3,), (0,), (("circle", (0,)),))
        self.check((2, 3, 4), full_web(3), (("circle", (0, 1, 2)),))
        self.check((2, 3, 4), full_web(3), (("circle", (0, 2)),))
        self.check((4, 3, 2), full_web(3), (("circle", (1, 2)), ("circle", (0,))))
        self.check((3, 3, 3, 2, 2), full_web(5), (("circle", (3, 4)), ("circle", (0, 1, 2))))
        self.check((2,) * 8, full_web(8), (("circle", tuple(range(8))),))

    def test_rings(self):
        web = web_of(4, [(0, 1), (1, 2), (2, 3), (3, 0)])
        for way in ((0, 1, 2, 3), (1, 2, 3, 0), (2, 3, 0, 1), (3, 0, 1, 2)):
            self.check((2,) * 4, web, (("ring", way),))
        for way in itertools.permutations(range(4)):
            self.check((2,) * 4, full_web(4), (("ring", way),))
        self.check((2,) * 4, full_web(4), (("ring", (3, 1)), ("ring", (0, 2))))
        self.check((2,) * 8, full_web(8), (("ring", (5, 2, 7)), ("ring", (0, 6, 3, 4)), ("circle", (1,))))

    def test_both_and_some_in_none(self):
        web = full_web(6)
        self.check((2, 3, 2, 3, 2, 3), web, (("circle", (1, 3, 5)), ("ring", (4, 0))))
        self.check((2, 2, 2, 3, 3, 3), web, (("ring", (1, 2, 0)), ("circle", (3, 5))))
        self.check((1, 4, 2, 2, 4, 4), web, (("circle", (0, 4)), ("ring", (3, 2))))

    # Somebody who sees more than the group guesses by the group alone.
    def test_those_outside_play_no_part(self):
        plan = plan_of((2, 5, 2), full_web(3), (("ring", (0, 2)),))
        for own, other in ((0, 2), (2, 0)):
            for seen in (0, 1):
                guesses = {told((2, 5, 2), full_web(3), plan, tuple(seen if j == other else third for j in range(3)))[own]
                           for third in range(2)}
                self.assertEqual(len(guesses), 1)

    def test_best_groups(self):
        chance = random.Random(36)
        for counts in SEVERAL:
            for step in range(4):
                web = chance_web(chance, len(counts), chance.choice((0.3, 0.6, 1)))
                self.check(counts, web, best_groups(counts, web))

    def test_rings_in_best_groups(self):
        for many in range(2, 9):
            web = web_of(many, [(i, (i + 1) % many) for i in range(many)])
            groups = best_groups((2,) * many, web)
            self.assertEqual(made_sure((2,) * many, groups), 1)
            self.check((2,) * many, web, groups)

    def test_all_webs_of_three(self):
        for web in all_webs(3):
            for counts in ((2, 2, 2), (2, 3, 2)):
                self.check(counts, web, best_groups(counts, web))

    def test_somewhat_beyond_the_bounds(self):
        self.check((2,) * 9, full_web(9), (("circle", tuple(range(9))),))
        self.check((17, 16), full_web(2), (("circle", (0, 1)),))


class Arguments(unittest.TestCase):
    def test_names(self):
        for function, names in ((code, ["counts", "web", "hats", "i"]), (told, ["counts", "web", "plan", "hats"]),
                                (rights, ["counts", "web", "plan"]), (fewest, ["counts", "web", "plan"]),
                                (foe, ["counts", "web", "plan"]), (plan_of, ["counts", "web", "groups"])):
            self.assertEqual(list(inspect.signature(function).parameters), names)

    def test_asked_again(self):
        asked = list(cases(37, 2))
        for function in (rights, fewest, foe):
            first = [function(*one) for one in asked]
            again = [function(*one) for one in reversed(asked)]
            self.assertEqual(first, again[::-1])


if __name__ == "__main__":
    unittest.main()
