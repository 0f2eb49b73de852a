"""Points 4, 12 and 13: groups, their first fault, what they make sure, and the best ones."""

import inspect
import itertools
import random
import unittest
from fractions import Fraction

from hatsight.groups import best_groups, group_fault, made_sure

LARGEST = 10 ** 30 - 1
# One by each of these, put together, is just 1.
JUST_ONE = (2, 3, 7, 43, 1807, 3263443, 10650056950807, 113423713055421844361000442)


def all_webs(many):
    masks = [[mask for mask in range(1 << many) if not mask & (1 << i)] for i in range(many)]
    return itertools.product(*masks)


def full_web(many):
    return tuple(((1 << many) - 1) & ~(1 << i) for i in range(many))


def web_of(many, sights):
    masks = [0] * many
    for i, j in sights:
        masks[i] |= 1 << j
    return tuple(masks)


def ring_web(way, many):
    return web_of(many, [(way[k - 1], way[k]) for k in range(len(way))])


def chance_web(chance, many, of):
    return web_of(many, [(i, j) for i in range(many) for j in range(many) if i != j and chance.random() < of])


def sees(web, i, j):
    return bool(web[i] & (1 << j))


def circle_by_the_document(web, people):
    rising = list(people) == sorted(set(people))
    return rising and len(people) >= 1 and all(sees(web, i, j) for i in people for j in people if i != j)


def ring_by_the_document(counts, web, people):
    if len(people) < 2 or len(set(people)) != len(people) or any(counts[i] != 2 for i in people):
        return False
    return all(sees(web, people[k - 1], people[k]) for k in range(len(people)))


def group_by_the_document(counts, web, group):
    kind, people = group
    if any(i not in range(len(counts)) for i in people):
        return False
    if kind == "circle":
        return circle_by_the_document(web, people)
    return ring_by_the_document(counts, web, people)


def fault_by_the_document(counts, web, groups):
    for place, group in enumerate(groups):
        earlier = [i for other in groups[:place] for i in other[1]]
        if not group_by_the_document(counts, web, group) or any(i in earlier for i in group[1]):
            return place
    return None


def share_down(counts):
    exact = sum((Fraction(1, count) for count in counts), Fraction(0))
    return exact.numerator // exact.denominator


def sure_by_the_document(counts, groups):
    return sum(1 if kind == "ring" else share_down([counts[i] for i in people]) for kind, people in groups)


def worth_of(counts, web, people):
    as_circle = share_down([counts[i] for i in people]) if circle_by_the_document(web, people) else 0
    ways = (people[:1] + rest for rest in itertools.permutations(people[1:]))
    as_ring = int(any(ring_by_the_document(counts, web, way) for way in ways))
    return max(as_circle, as_ring)


def partings(people):
    if not people:
        yield []
        return
    for size in range(len(people)):
        for others in itertools.combinations(people[1:], size):
            rest = tuple(i for i in people[1:] if i not in others)
            for more in partings(rest):
                yield [people[:1] + others] + more


# Somebody alone in a part that is worth nothing is in no group, so partings tell all groupings.
def most_sure(counts, web):
    people = tuple(range(len(counts)))
    worth = {part: worth_of(counts, web, part) for size in range(1, len(people) + 1)
             for part in itertools.combinations(people, size)}
    return max(sum(worth[part] for part in parts) for parts in partings(people))


class Faults(unittest.TestCase):
    def told(self, counts, web, groups, expected):
        with self.subTest(counts=counts, web=web, groups=groups):
            answer = group_fault(counts, web, groups)
            self.assertEqual(answer, expected)
            self.assertIs(type(answer), type(expected))

    def test_no_groups(self):
        self.told((), (), (), None)
        self.told((2,), (0,), (), None)
        self.told((2, 3), (2, 1), (), None)

    def test_a_circle_of_one(self):
        self.told((5,), (0,), (("circle", (0,)),), None)
        self.told((5, 2, 1), (0, 0, 0), (("circle", (2,)), ("circle", (0,))), None)

    def test_circles(self):
        counts = (2, 3, 4)
        self.told(counts, full_web(3), (("circle", (0, 1, 2)),), None)
        self.told(counts, full_web(3), (("circle", (0, 2)), ("circle", (1,))), None)

    def test_people_of_a_circle_who_do_not_rise(self):
        counts = (2, 2, 2)
        for people in ((1, 0), (0, 2, 1), (2, 1, 0), (1, 2, 0)):
            self.told(counts, full_web(3), (("circle", people),), 0)

    def test_people_of_a_circle_who_stand_twice(self):
        counts = (2, 2, 2)
        for people in ((0, 0), (0, 1, 1), (0, 0, 1), (0, 1, 0), (2,) * 10):
            self.told(counts, full_web(3), (("circle", people),), 0)

    def test_people_of_a_circle_who_do_not_all_see_one_another(self):
        for lost in itertools.permutations(range(3), 2):
            web = web_of(3, [pair for pair in itertools.permutations(range(3), 2) if pair != lost])
            self.told((2, 2, 2), web, (("circle", (0, 1, 2)),), 0)
            self.told((2, 2, 2), web, (("circle", tuple(sorted(lost))),), 0)
            third = 3 - sum(lost)
            self.told((2, 2, 2), web, (("circle", tuple(sorted((lost[0], third)))),), None)

    def test_rings(self):
        web = ring_web((0, 1, 2), 3)
        for people in ((0, 1, 2), (1, 2, 0), (2, 0, 1)):
            self.told((2, 2, 2), web, (("ring", people),), None)
        self.told((2, 2), (2, 1), (("ring", (0, 1)),), None)
        self.told((2, 2), (2, 1), (("ring", (1, 0)),), None)

    def test_a_ring_turned_about(self):
        web = ring_web((0, 1, 2), 3)
        for people in ((2, 1, 0), (0, 2, 1), (1, 0, 2)):
            self.told((2, 2, 2), web, (("ring", people),), 0)

    def test_a_ring_that_is_not_closed(self):
        web = web_of(4, [(0, 1), (1, 2), (2, 3)])
        for people in ((0, 1, 2, 3), (0, 1), (1, 2, 3)):
            self.told((2,) * 4, web, (("ring", people),), 0)

    def test_a_ring_of_one(self):
        for web in ((0, 0), (2, 1)):
            self.told((2, 2), web, (("ring", (0,)),), 0)
            self.told((1, 1), web, (("ring", (1,)),), 0)

    def test_a_ring_with_somebody_twice(self):
        for people in ((0, 0), (0, 1, 0, 1), (0, 1, 0), (0, 1, 2, 1), (0, 1, 2, 0, 1, 2)):
            self.told((2, 2, 2), full_web(3), (("ring", people),), 0)

    def test_a_ring_with_a_count_that_is_not_two(self):
        web = full_web(3)
        for count in (1, 3, 4, LARGEST):
            for place in range(3):
                counts = tuple(count if i == place else 2 for i in range(3))
                self.told(counts, web, (("ring", (0, 1, 2)),), 0)
                self.told(counts, web, (("ring", tuple(i for i in range(3) if i != place)),), None)
                self.told(counts, web, (("circle", (0, 1, 2)),), None)

    def test_somebody_in_an_earlier_group(self):
        counts = (2,) * 4
        web = full_web(4)
        self.told(counts, web, (("circle", (0, 1)), ("circle", (1, 2))), 1)
        self.told(counts, web, (("ring", (0, 1)), ("circle", (0,))), 1)
        self.told(counts, web, (("circle", (3,)), ("ring", (0, 1, 3))), 1)
        self.told(counts, web, (("ring", (0, 1)), ("ring", (1, 0))), 1)
        self.told(counts, web, (("circle", (0,)), ("circle", (1,)), ("circle", (2,)), ("circle", (0,))), 3)
        self.told(counts, web, (("circle", (0, 1)), ("ring", (3, 2))), None)

    def test_numbers_of_nobody(self):
        for wrong in (-1, -2, 3, 4, 8, 63, 64, 10 ** 59, 10 ** 60 - 1, 1 - 10 ** 60):
            for kind in ("circle", "ring"):
                for people in ((wrong,), (0, wrong), (wrong, 0), (0, 1, wrong), (wrong,) * 10):
                    self.told((2, 2, 2), full_web(3), ((kind, people),), 0)
                    self.told((2, 2, 2), full_web(3), (("circle", (2,)), (kind, people)), 1)
        self.told((), (), (("circle", (0,)),), 0)
        self.told((), (), (("ring", (0, 1)),), 0)

    def test_the_first_fault_of_several(self):
        counts = (2, 2, 3, 2)
        web = full_web(4)
        self.told(counts, web, (("ring", (0, 2)), ("circle", (9,))), 0)
        self.told(counts, web, (("circle", (0,)), ("circle", (9,)), ("circle", (0,))), 1)
        self.told(counts, web, (("circle", (0,)), ("circle", (0,)), ("circle", (9,))), 1)
        self.told(counts, web, (("circle", (0, 1)), ("ring", (3, 2)), ("ring", (1, 3))), 1)
        self.told(counts, web, (("circle", (0, 1)), ("circle", (2,)), ("circle", (3,)), ("ring", (3,))), 3)

    def test_twenty_pairs_and_somewhat_more(self):
        for many in (20, 25):
            self.told((2,), (0,), (("circle", (0,)),) * many, 1)
            groups = tuple(("circle", (i,)) for i in range(8)) + (("circle", (7,)),) * (many - 8)
            self.told((2,) * 8, (0,) * 8, groups, 8)
        self.told((2,) * 9, full_web(9), (("circle", tuple(range(9))),), None)
        self.told((2,) * 12, full_web(12), (("ring", tuple(range(12))),), None)
        self.told((2,) * 12, full_web(12), (("ring", tuple(range(13))),), 0)

    def test_all_lone_groups_of_small_webs(self):
        for counts, web in itertools.product(((2, 2, 2), (2, 3, 2)), all_webs(3)):
            for size in range(1, 5):
                for people in itertools.product(range(-1, 4), repeat=size):
                    for kind in ("circle", "ring"):
                        groups = ((kind, people),)
                        expected = fault_by_the_document(counts, web, groups)
                        if group_fault(counts, web, groups) != expected:
                            self.fail(f"{counts} {web} {groups}")

    def test_many_groups(self):
        chance = random.Random(21)
        seen = {}
        for step in range(6000):
            many = chance.randrange(1, 9)
            counts = tuple(chance.choice((2, 2, 2, 2, 3)) for i in range(many))
            web = chance_web(chance, many, 0.9)
            people = chance.sample(range(many), many)
            groups = []
            while people:
                size = chance.choice((1, 1, 2, 3))
                part = tuple(people[:size])
                people = people[size:]
                kind = chance.choice(("circle", "ring")) if len(part) > 1 else "circle"
                groups.append((kind, tuple(sorted(part)) if kind == "circle" else part))
                if chance.randrange(12) == 0:
                    people.append(chance.randrange(-1, many + 1))
            expected = fault_by_the_document(counts, web, groups)
            seen[expected] = True
            self.told(counts, web, tuple(groups), expected)
        self.assertLessEqual({None, 0, 1, 2, 3, 4}, set(seen))


class MadeSure(unittest.TestCase):
    def told(self, counts, groups, expected):
        with self.subTest(counts=counts, groups=groups):
            answer = made_sure(counts, groups)
            self.assertEqual(answer, expected)
            self.assertIs(type(answer), int)
            self.assertEqual(sure_by_the_document(counts, groups), expected)

    def test_no_groups(self):
        self.told((), (), 0)
        self.told((1, 1), (), 0)

    def test_circles(self):
        self.told((2, 2), (("circle", (0, 1)),), 1)
        self.told((2, 2), (("circle", (0,)), ("circle", (1,))), 0)
        self.told((1, 1, 1), (("circle", (0,)), ("circle", (1, 2))), 3)
        self.told((2, 3, 7), (("circle", (0, 1, 2)),), 0)
        self.told((2,) * 8, (("circle", tuple(range(8))),), 4)

    def test_a_share_that_is_just_a_whole_number(self):
        self.told((2, 3, 6), (("circle", (0, 1, 2)),), 1)
        self.told((9, 2, 9, 3, 6), (("circle", (1, 3, 4)),), 1)
        self.told((4,) * 8, (("circle", tuple(range(8))),), 2)
        self.told(JUST_ONE, (("circle", tuple(range(8))),), 1)
        self.told(JUST_ONE[:7] + (JUST_ONE[7] + 1,), (("circle", tuple(range(8))),), 0)

    def test_counts_of_thirty_figures(self):
        self.told((LARGEST,) * 8, (("circle", tuple(range(8))),), 0)
        self.told((LARGEST, 1, LARGEST), (("circle", (0, 1)), ("circle", (2,))), 1)
        self.told((LARGEST, 2, LARGEST - 1, 2), (("circle", (0, 1, 2, 3)),), 1)

    def test_one_for_each_ring(self):
        self.told((2,) * 8, (("ring", (0, 1)),), 1)
        self.told((2,) * 8, (("ring", tuple(range(8))),), 1)
        self.told((2,) * 8, (("ring", (5, 0, 3)), ("ring", (7, 1))), 2)
        self.told((2,) * 8, (("ring", (0, 1)), ("ring", (2, 3)), ("ring", (4, 5)), ("ring", (6, 7))), 4)

    def test_both(self):
        self.told((2, 2, 2, 3, 6, 2, 1), (("ring", (0, 1)), ("circle", (2, 3, 4)), ("circle", (5,)), ("circle", (6,))), 3)

    # A circle's share is rounded down by itself, not together with that of another one.
    def test_each_circle_is_rounded_down_alone(self):
        self.told((2, 4, 2, 4), (("circle", (0, 1)), ("circle", (2, 3))), 0)
        self.told((2, 2, 2, 2, 2, 2), (("circle", (0, 1, 2)), ("circle", (3, 4, 5))), 2)


class BestGroups(unittest.TestCase):
    def check(self, counts, web, expected=None):
        groups = best_groups(counts, web)
        if expected is None:
            expected = most_sure(counts, web)
        where = (counts, web, groups)
        self.assertIs(type(groups), tuple, where)
        for group in groups:
            self.assertIs(type(group), tuple, where)
            self.assertEqual(len(group), 2, where)
            self.assertIn(group[0], ("circle", "ring"), where)
            self.assertIs(type(group[1]), tuple, where)
            self.assertTrue(all(type(i) is int for i in group[1]), where)
        self.assertIsNone(fault_by_the_document(counts, web, groups), where)
        self.assertIsNone(group_fault(counts, web, groups), where)
        self.assertEqual(sure_by_the_document(counts, groups), expected, where)
        self.assertLessEqual(expected, share_down(counts), where)
        self.assertEqual(best_groups(counts, web), groups, where)

    def test_nobody(self):
        self.assertEqual(best_groups((), ()), ())
        self.check((), (), 0)

    def test_a_web_without_sights(self):
        for many in range(1, 9):
            self.check((2,) * many, (0,) * many, 0)
            self.check((1,) * many, (0,) * many, many)
        self.check((1, 2, 1, LARGEST, 3), (0,) * 5, 2)

    def test_a_web_with_all_sights(self):
        for counts in ((2,) * 8, (3,) * 8, (2, 3, 6), (2, 3, 7), JUST_ONE, (LARGEST,) * 8, (1, 2, 3, 4, 5, 6, 7, 8),
                       (2, 2, 2, 3, 3, 3, 4, 4), (4,) * 8, (1,) * 8, (2, 4, 4), (5,) * 5):
            self.check(counts, full_web(len(counts)), share_down(counts))

    def test_a_ring_alone(self):
        chance = random.Random(22)
        for many in range(2, 9):
            way = chance.sample(range(many), many)
            web = ring_web(way, many)
            self.check((2,) * many, web, 1)
            for count in (3, LARGEST):
                self.check(tuple(count if i == way[0] else 2 for i in range(many)), web, 0)
            self.check(tuple(1 if i == way[0] else 2 for i in range(many)), web, 1)

    def test_rings_that_share_somebody(self):
        web = web_of(7, [(0, 1), (1, 2), (2, 0), (0, 3), (3, 4), (4, 0), (5, 6), (6, 5)])
        self.check((2,) * 7, web, 2)

    # The ring and the circle that come first to mind stand in the way of more.
    def test_the_largest_group_is_not_always_the_best(self):
        pairs = [(0, 1), (2, 3), (4, 5), (6, 7)]
        sights = [(i, j) for pair in pairs for i, j in (pair, pair[::-1])]
        round_all = [(i, (i + 1) % 8) for i in range(8)]
        self.check((2,) * 8, web_of(8, sights + round_all), 4)
        circle = list(itertools.permutations((0, 1, 2), 2))
        self.check((2,) * 4, web_of(4, circle + [(2, 3), (3, 2)]), 2)

    def test_all_webs_of_up_to_three(self):
        for many in range(1, 4):
            for counts in itertools.product((1, 2, 3), repeat=many):
                for web in all_webs(many):
                    self.check(counts, web)

    def test_all_webs_of_four_with_two_colours(self):
        for web in all_webs(4):
            self.check((2,) * 4, web)

    def test_many_webs_of_up_to_eight(self):
        chance = random.Random(23)
        for many, steps in ((4, 200), (5, 150), (6, 80), (7, 20), (8, 6)):
            for step in range(steps):
                few = chance.choice(((2,), (2, 2, 2, 3), (1, 2, 3, 4), (2, 3, 6), (2, LARGEST)))
                counts = tuple(chance.choice(few) for i in range(many))
                self.check(counts, chance_web(chance, many, chance.choice((0.2, 0.4, 0.6, 0.8))))

    def test_somewhat_beyond_the_bounds(self):
        self.check((2,) * 10, full_web(10), 5)
        self.check((2,) * 10, ring_web(range(10), 10), 1)
        self.check((10 ** 33, 2, 10 ** 40, 2), full_web(4), 1)

    def test_the_same_whatever_was_asked_between(self):
        asked = [((2, 2, 2), web) for web in all_webs(3)] + [((2, 1, 3), web) for web in all_webs(3)]
        first = [best_groups(*one) for one in asked]
        again = [best_groups(*one) for one in reversed(asked)]
        self.assertEqual(first, again[::-1])


class Arguments(unittest.TestCase):
    def test_names(self):
        for function, names in ((group_fault, ["counts", "web", "groups"]), (made_sure, ["counts", "groups"]),
                                (best_groups, ["counts", "web"])):
            self.assertEqual(list(inspect.signature(function).parameters), names)


if __name__ == "__main__":
    unittest.main()
