"""Point 8: circles, rings and orders of sight."""

import inspect
import itertools
import random
import unittest

from hatsight.webs import is_circle, is_ring, places, sight_order, sight_ring


def all_webs(many):
    masks = [[mask for mask in range(1 << many) if not mask & (1 << i)] for i in range(many)]
    return itertools.product(*masks)


def sees(web, i, j):
    return bool(web[i] & (1 << j))


def circle_by_the_document(web, people):
    return all(sees(web, i, j) for i in people for j in people if i != j)


def ring_by_the_document(web, people):
    if len(people) < 2 or len(set(people)) != len(people):
        return False
    return all(sees(web, people[k - 1], people[k]) for k in range(len(people)))


def order_by_the_document(web, people):
    if sorted(people) != list(range(len(web))):
        return False
    return all(people.index(j) < people.index(i) for i in people for j in range(len(web)) if sees(web, i, j))


def web_of(many, sights):
    masks = [0] * many
    for i, j in sights:
        masks[i] |= 1 << j
    return tuple(masks)


def seen_at_random(chance, many):
    return tuple(sum(1 << j for j in range(many) if j != i and chance.randrange(many) == 0) for i in range(many))


class Places(unittest.TestCase):
    def told(self, mask, people):
        with self.subTest(mask=mask):
            answer = places(mask)
            self.assertEqual(answer, people)
            self.assertIs(type(answer), list)
            self.assertTrue(all(type(i) is int for i in answer))

    def test_nobody(self):
        self.told(0, [])

    def test_some(self):
        self.told(1, [0])
        self.told(2, [1])
        self.told(5, [0, 2])
        self.told(6, [1, 2])
        self.told(255, [0, 1, 2, 3, 4, 5, 6, 7])
        self.told(128, [7])

    def test_small_masks(self):
        for mask in range(1024):
            self.told(mask, [i for i in range(10) if mask & (1 << i)])

    def test_sixty_three_people(self):
        self.told((1 << 63) - 1, list(range(63)))
        self.told(1 << 62, [62])
        self.told(1 + (1 << 62), [0, 62])
        self.told(sum(1 << i for i in range(0, 63, 2)), list(range(0, 63, 2)))

    def test_somewhat_more(self):
        self.told((1 << 70) - 1, list(range(70)))
        self.told(1 << 100, [100])

    def test_the_list_is_the_askers_own(self):
        for mask in (0, 1, 5, (1 << 63) - 1):
            first = places(mask)
            second = places(mask)
            kept = list(first)
            first.append(99)
            first.reverse()
            self.assertEqual(second, kept)
            self.assertEqual(places(mask), kept)
            second.clear()
            self.assertEqual(places(mask), kept)

    def test_what_is_asked_later_changes_no_list(self):
        first = places(5)
        places(10)
        places(0)
        self.assertEqual(first, [0, 2])


class Circles(unittest.TestCase):
    def test_one_alone(self):
        self.assertIs(is_circle((0,), (0,)), True)
        self.assertIs(is_circle((0, 0, 0), (2,)), True)
        self.assertIs(is_circle((6, 5, 3), (1,)), True)

    def test_two(self):
        self.assertIs(is_circle((2, 1), (0, 1)), True)
        self.assertIs(is_circle((2, 0), (0, 1)), False)
        self.assertIs(is_circle((0, 1), (0, 1)), False)
        self.assertIs(is_circle((0, 0), (0, 1)), False)

    def test_all_small_webs(self):
        for many in (1, 2, 3):
            for web in all_webs(many):
                self.check_web(web)

    def test_many_larger_webs(self):
        chance = random.Random(8)
        for many in (4, 5, 8):
            for step in range(30):
                full = [((1 << many) - 1) & ~(1 << i) for i in range(many)]
                for lost in range(chance.randrange(4)):
                    i = chance.randrange(many)
                    full[i] &= ~(1 << chance.randrange(many))
                self.check_web(tuple(full))

    def check_web(self, web):
        for size in range(1, len(web) + 1):
            for people in itertools.combinations(range(len(web)), size):
                self.assertIs(is_circle(web, people), circle_by_the_document(web, people), (web, people))

    def test_those_outside_play_no_part(self):
        self.assertIs(is_circle((0b1010, 0b0101, 0b0000, 0b0001), (0, 1)), True)
        self.assertIs(is_circle((0b1010, 0b0101, 0b0000, 0b0001), (0, 3)), True)
        self.assertIs(is_circle((0b1010, 0b0101, 0b0000, 0b0001), (0, 1, 3)), False)

    def test_eight_and_somewhat_more(self):
        for many in (8, 9, 20):
            full = [((1 << many) - 1) & ~(1 << i) for i in range(many)]
            self.assertIs(is_circle(tuple(full), tuple(range(many))), True)
            full[many - 1] -= 1
            self.assertIs(is_circle(tuple(full), tuple(range(many))), False)
            self.assertIs(is_circle(tuple(full), tuple(range(1, many))), True)


class Rings(unittest.TestCase):
    def test_too_few(self):
        for web in ((), (0,), (2, 1), (6, 5, 3)):
            self.assertIs(is_ring(web, ()), False)
            for i in range(len(web)):
                self.assertIs(is_ring(web, (i,)), False)

    def test_some_twice(self):
        self.assertIs(is_ring((2, 1), (0, 1, 0, 1)), False)
        self.assertIs(is_ring((2, 1), (0, 0)), False)
        self.assertIs(is_ring((6, 5, 3), (0, 1, 0, 2)), False)
        self.assertIs(is_ring((6, 5, 3), (0, 1, 2, 0, 1, 2)), False)
        self.assertIs(is_ring((6, 5, 3), (0, 1, 2, 1)), False)

    def test_two(self):
        self.assertIs(is_ring((2, 1), (0, 1)), True)
        self.assertIs(is_ring((2, 1), (1, 0)), True)
        self.assertIs(is_ring((2, 0), (0, 1)), False)
        self.assertIs(is_ring((0, 1), (0, 1)), False)

    def test_the_way_round_counts(self):
        web = web_of(3, [(0, 1), (1, 2), (2, 0)])
        for people in ((0, 1, 2), (1, 2, 0), (2, 0, 1)):
            self.assertIs(is_ring(web, people), True)
        for people in ((0, 2, 1), (2, 1, 0), (1, 0, 2), (0, 1), (1, 2)):
            self.assertIs(is_ring(web, people), False)

    def test_all_small_webs(self):
        for many in (1, 2, 3):
            for web in all_webs(many):
                self.check_web(web, 4)

    def test_many_webs_of_four(self):
        chance = random.Random(9)
        for web in chance.sample(list(all_webs(4)), 60):
            self.check_web(web, 5)

    def check_web(self, web, longest):
        for size in range(longest + 1):
            for people in itertools.product(range(len(web)), repeat=size):
                self.assertIs(is_ring(web, people), ring_by_the_document(web, people), (web, people))

    def test_eight_and_somewhat_more(self):
        for many in (8, 9, 30):
            web = web_of(many, [(i, (i + 1) % many) for i in range(many)])
            self.assertIs(is_ring(web, tuple(range(many))), True)
            self.assertIs(is_ring(web, tuple(range(many - 1))), False)
            self.assertIs(is_ring(web, tuple(reversed(range(many)))), False)


class Sight(unittest.TestCase):
    def check(self, web):
        order = sight_order(web)
        ring = sight_ring(web)
        self.assertTrue((order is None) != (ring is None), web)
        if order is not None:
            self.assertIs(type(order), tuple)
            self.assertTrue(all(type(i) is int for i in order))
            self.assertTrue(order_by_the_document(web, order), (web, order))
        else:
            self.assertIs(type(ring), tuple)
            self.assertTrue(all(type(i) is int and 0 <= i < len(web) for i in ring))
            self.assertTrue(ring_by_the_document(web, ring), (web, ring))
        self.assertEqual((sight_order(web), sight_ring(web)), (order, ring))

    def test_nobody(self):
        self.assertEqual(sight_order(()), ())
        self.assertIs(type(sight_order(())), tuple)
        self.assertIsNone(sight_ring(()))

    def test_one_alone(self):
        self.assertEqual(sight_order((0,)), (0,))
        self.assertIsNone(sight_ring((0,)))

    def test_where_there_is_but_one_order(self):
        self.assertEqual(sight_order((0, 1, 3, 7)), (0, 1, 2, 3))
        self.assertEqual(sight_order((14, 12, 8, 0)), (3, 2, 1, 0))
        self.assertEqual(sight_order(web_of(4, [(1, 3), (3, 0), (0, 2)])), (2, 0, 3, 1))

    def test_where_there_is_but_one_ring(self):
        self.assertEqual(set(sight_ring((2, 1))), {0, 1})
        web = web_of(5, [(0, 1), (1, 3), (3, 4), (4, 1), (2, 0)])
        self.assertIn(sight_ring(web), ((1, 3, 4), (3, 4, 1), (4, 1, 3)))
        self.assertIsNone(sight_order(web))

    def test_who_only_sees_into_a_ring_or_is_seen_out_of_it(self):
        self.check(web_of(6, [(0, 1), (1, 2), (2, 3), (3, 1), (3, 4), (4, 5)]))
        self.check(web_of(6, [(5, 4), (4, 3), (3, 2), (2, 4), (2, 1), (1, 0)]))

    def test_all_small_webs(self):
        for many in range(5):
            for web in all_webs(many):
                self.check(web)

    def test_many_webs_of_up_to_eight_and_somewhat_more(self):
        chance = random.Random(10)
        for many in (5, 6, 7, 8, 9, 12):
            for step in range(200):
                self.check(seen_at_random(chance, many))

    def test_webs_that_have_an_order(self):
        chance = random.Random(11)
        for many in (5, 8, 12, 40):
            for step in range(40):
                rank = chance.sample(range(many), many)
                web = web_of(many, [(i, j) for i in range(many) for j in range(many)
                                    if rank[j] < rank[i] and chance.randrange(2)])
                self.assertIsNotNone(sight_order(web))
                self.check(web)

    def test_webs_whose_only_ring_holds_all(self):
        chance = random.Random(12)
        for many in (2, 3, 8, 40):
            way = chance.sample(range(many), many)
            web = web_of(many, [(way[k - 1], way[k]) for k in range(many)])
            self.assertEqual(len(sight_ring(web)), many)
            self.check(web)

    def test_the_same_web_is_told_the_same_whatever_was_asked_between(self):
        webs = list(all_webs(3))
        first = [(sight_order(web), sight_ring(web)) for web in webs]
        again = [(sight_order(tuple(web)), sight_ring(tuple(web))) for web in reversed(webs)]
        self.assertEqual(first, again[::-1])


class Arguments(unittest.TestCase):
    def test_names(self):
        for function, names in ((places, ["mask"]), (is_circle, ["web", "people"]), (is_ring, ["web", "people"]),
                                (sight_order, ["web"]), (sight_ring, ["web"])):
            self.assertEqual(list(inspect.signature(function).parameters), names)


if __name__ == "__main__":
    unittest.main()
