"""Points 2, 4, 17 and 23: halls, the hats put on in them, guesses and who is right."""

import inspect
import itertools
import random
import unittest

from hatsight.circles import circle_guess
from hatsight.errors import HatError, NoGroups, NoHats, NoName
from hatsight.groups import best_groups, group_fault, made_sure
from hatsight.halls import Hall
from hatsight.rings import ring_guess
from hatsight.tables import plan_of, told

LARGEST = 10 ** 30 - 1
HUGE = 10 ** 60 - 1


def all_hats(counts):
    return list(itertools.product(*[range(count) for count in counts]))


def full_web(many):
    return tuple(((1 << many) - 1) & ~(1 << i) for i in range(many))


def web_of(many, sights):
    masks = [0] * many
    for i, j in sights:
        masks[i] |= 1 << j
    return tuple(masks)


def chance_web(chance, many, of):
    return web_of(many, [(i, j) for i in range(many) for j in range(many) if i != j and chance.random() < of])


def guess_by_the_document(counts, groups, hats, i):
    for kind, people in groups:
        if i in people:
            place = people.index(i)
            if kind == "ring":
                return ring_guess(len(people), place, hats[people[place + 1 - len(people)]])
            return circle_guess(tuple(counts[j] for j in people), tuple(hats[j] for j in people), place)
    return 0


# Groups by chance, without a fault, not only the best ones.
def chance_groups(chance, counts, web):
    groups = []
    people = chance.sample(range(len(counts)), len(counts))
    while people:
        size = chance.choice((1, 2, 2, 3, 4))
        part = tuple(people[:size])
        people = people[size:]
        for group in (("ring", part), ("ring", part[::-1]), ("circle", tuple(sorted(part)))):
            if group_fault(counts, web, (group,)) is None and chance.randrange(4):
                groups.append(group)
                break
    return tuple(groups)


def halls(seed, steps):
    chance = random.Random(seed)
    for step in range(steps):
        many = chance.randrange(9)
        few = chance.choice(((2,), (2, 2, 3), (1, 2, 3, 4), (2, LARGEST), (2, 5, 10 ** 29, LARGEST)))
        counts = tuple(chance.choice(few) for i in range(many))
        web = chance_web(chance, many, chance.choice((0.3, 0.6, 0.9, 1)))
        groups = chance.choice((best_groups(counts, web), chance_groups(chance, counts, web)))
        yield chance, counts, web, groups


class Kept(unittest.TestCase):
    def told(self, hall, counts, groups, hats):
        where = (counts, groups, hats)
        self.assertEqual(hall.hats(), hats, where)
        self.assertIs(type(hall.hats()), tuple)
        self.assertTrue(all(type(colour) is int for colour in hall.hats()), where)
        expected = [guess_by_the_document(counts, groups, hats, i) for i in range(len(counts))]
        answers = [hall.guess(i) for i in range(len(counts))]
        self.assertEqual(answers, expected, where)
        self.assertTrue(all(type(guess) is int for guess in answers), where)
        self.assertTrue(all(0 <= guess < count for guess, count in zip(answers, counts)), where)
        right = hall.right()
        self.assertIs(type(right), list)
        self.assertTrue(all(type(i) is int for i in right), where)
        self.assertEqual(right, [i for i in range(len(counts)) if expected[i] == hats[i]], where)
        self.assertGreaterEqual(len(right), made_sure(counts, groups), where)

    def refused(self, kind, deed, *told):
        with self.assertRaises(HatError) as caught:
            deed(*told)
        self.assertIs(type(caught.exception), kind, told)


class Begins(Kept):
    def test_nobody(self):
        hall = Hall((), (), ())
        self.told(hall, (), (), ())
        self.assertIsNone(hall.put_all(()))
        self.told(hall, (), (), ())

    def test_hats_are_nought_at_first(self):
        for counts in ((1,), (5,), (2, 3), (LARGEST,) * 8, (2,) * 8):
            self.told(Hall(counts, (0,) * len(counts), ()), counts, (), (0,) * len(counts))

    def test_nought_at_first_by_any_groups(self):
        for chance, counts, web, groups in halls(48, 200):
            self.told(Hall(counts, web, groups), counts, groups, (0,) * len(counts))

    def test_who_is_in_no_group_guesses_nought(self):
        hall = Hall((2, 2, 5), (2, 1, 3), (("circle", (0, 1)),))
        for colour in range(5):
            hall.put(2, colour)
            self.assertEqual(hall.guess(2), 0)
            self.assertEqual(2 in hall.right(), colour == 0)


class FaultsOfGroups(Kept):
    def groups_refused(self, counts, web, *groups):
        self.assertIsNotNone(group_fault(counts, web, groups))
        self.refused(NoGroups, Hall, counts, web, groups)

    def test_circles(self):
        for people in ((1, 0), (0, 2, 1), (0, 0), (0, 1, 1)):
            self.groups_refused((2, 2, 2), full_web(3), ("circle", people))
        self.groups_refused((2, 2, 2), (2, 0, 3), ("circle", (0, 1)))
        self.groups_refused((2, 2, 2), (2, 5, 3), ("circle", (0, 1, 2)))

    def test_rings(self):
        for people in ((0,), (0, 0), (0, 1, 0), (0, 1, 2, 1)):
            self.groups_refused((2, 2, 2), full_web(3), ("ring", people))
        self.groups_refused((2, 2, 2), (2, 4, 1), ("ring", (2, 1, 0)))
        self.groups_refused((2, 2, 2), (2, 4, 0), ("ring", (0, 1, 2)))
        for count in (1, 3, LARGEST):
            self.groups_refused((2, 2, count), full_web(3), ("ring", (0, 1, 2)))

    def test_numbers_of_nobody(self):
        for wrong in (-1, 3, 8, 64, HUGE, -HUGE):
            for kind in ("circle", "ring"):
                for people in ((wrong,), (0, wrong), (wrong, 0), (wrong,) * 10):
                    self.groups_refused((2, 2, 2), full_web(3), (kind, people))
        self.groups_refused((), (), ("circle", (0,)))

    def test_somebody_in_two_groups(self):
        web = full_web(4)
        self.groups_refused((2,) * 4, web, ("circle", (0, 1)), ("circle", (1, 2)))
        self.groups_refused((2,) * 4, web, ("ring", (0, 1)), ("ring", (1, 0)))
        self.groups_refused((2,) * 4, web, ("ring", (0, 1)), ("circle", (2,)), ("circle", (0,)))
        self.groups_refused((2,) * 4, web, *[("circle", (0,))] * 20)

    def test_a_fault_behind_groups_without_one(self):
        self.groups_refused((2,) * 4, full_web(4), ("circle", (0, 1)), ("ring", (2, 3)), ("circle", (4,)))

    def test_just_the_groups_at_fault_are_refused(self):
        chance = random.Random(49)
        refused = 0
        for step in range(1500):
            many = chance.randrange(1, 5)
            counts = tuple(chance.choice((2, 2, 2, 3)) for i in range(many))
            web = chance_web(chance, many, 0.8)
            groups = tuple((chance.choice(("circle", "ring")), tuple(chance.sample(range(-1, 5), chance.randrange(1, 4))))
                           for place in range(chance.randrange(3)))
            if group_fault(counts, web, groups) is None:
                self.told(Hall(counts, web, groups), counts, groups, (0,) * many)
            else:
                self.refused(NoGroups, Hall, counts, web, groups)
                refused += 1
        self.assertTrue(300 < refused < 1200)


class Deeds(Kept):
    def test_all_at_once(self):
        counts = (2, 3, 2)
        groups = (("circle", (0, 2)),)
        hall = Hall(counts, full_web(3), groups)
        for hats in all_hats(counts):
            self.assertIsNone(hall.put_all(hats))
            self.told(hall, counts, groups, hats)

    def test_one_by_one(self):
        counts = (2, 3, 2)
        groups = (("ring", (2, 0)), ("circle", (1,)))
        hall = Hall(counts, full_web(3), groups)
        hats = (0, 0, 0)
        for i, colour in ((0, 1), (1, 2), (2, 1), (0, 1), (0, 0), (1, 1), (2, 0), (1, 0)):
            self.assertIsNone(hall.put(i, colour))
            hats = hats[:i] + (colour,) + hats[i + 1:]
            self.told(hall, counts, groups, hats)

    def test_the_greatest_colours(self):
        counts = (1, LARGEST, 2, LARGEST)
        groups = (("circle", (0, 1, 2, 3)),)
        hall = Hall(counts, full_web(4), groups)
        hats = tuple(count - 1 for count in counts)
        hall.put_all(hats)
        self.told(hall, counts, groups, hats)
        other = Hall(counts, full_web(4), groups)
        for i, colour in enumerate(hats):
            other.put(i, colour)
        self.told(other, counts, groups, hats)

    def test_many_deeds(self):
        for chance, counts, web, groups in halls(50, 150):
            hall = Hall(counts, web, groups)
            hats = (0,) * len(counts)
            for step in range(8):
                if counts and chance.randrange(3):
                    i = chance.randrange(len(counts))
                    colour = chance.randrange(counts[i])
                    hall.put(i, colour)
                    hats = hats[:i] + (colour,) + hats[i + 1:]
                else:
                    hats = tuple(chance.randrange(count) for count in counts)
                    hall.put_all(hats)
                self.told(hall, counts, groups, hats)

    # Of large counts chance hardly meets the colour that is guessed.
    def test_the_guess_itself_put_on(self):
        for chance, counts, web, groups in halls(51, 100):
            hall = Hall(counts, web, groups)
            hall.put_all(tuple(chance.randrange(count) for count in counts))
            for i, count in enumerate(counts):
                guess = hall.guess(i)
                hall.put(i, (guess + 1) % count)
                self.assertEqual(i in hall.right(), count == 1)
                hall.put(i, guess)
                self.assertIn(i, hall.right())

    def test_by_the_plan_of_the_groups(self):
        chance = random.Random(52)
        for counts in ((2, 2, 2), (2, 3, 2, 3), (2,) * 5, (3, 1, 4)):
            for step in range(10):
                web = chance_web(chance, len(counts), 0.8)
                groups = chance_groups(chance, counts, web)
                hall = Hall(counts, web, groups)
                plan = plan_of(counts, web, groups)
                for hats in all_hats(counts):
                    hall.put_all(hats)
                    guesses = tuple(hall.guess(i) for i in range(len(counts)))
                    self.assertEqual(guesses, told(counts, web, plan, hats))

    def test_a_guess_hangs_on_seen_hats_alone(self):
        for chance, counts, web, groups in halls(53, 150):
            hall = Hall(counts, web, groups)
            hats = tuple(chance.randrange(count) for count in counts)
            for i in range(len(counts)):
                hall.put_all(hats)
                guess = hall.guess(i)
                for j, count in enumerate(counts):
                    if not web[i] & (1 << j):
                        for colour in {0, count - 1, chance.randrange(count)}:
                            hall.put(j, colour)
                            self.assertEqual(hall.guess(i), guess, (counts, web, groups, hats, i, j))

    def test_somewhat_beyond_the_bounds(self):
        counts = (2,) * 10
        groups = (("circle", (0, 1, 2, 3)), ("ring", tuple(range(4, 10))))
        hall = Hall(counts, full_web(10), groups)
        hats = (1, 0) * 5
        hall.put_all(hats)
        self.told(hall, counts, groups, hats)
        counts = (10 ** 33, 2, 10 ** 34, 2)
        groups = (("circle", (0, 1, 2, 3)),)
        hall = Hall(counts, full_web(4), groups)
        hall.put(2, 10 ** 34 - 1)
        self.told(hall, counts, groups, (0, 0, 10 ** 34 - 1, 0))


class Refusals(Kept):
    def setUp(self):
        self.counts = (2, 3, 2, LARGEST)
        self.groups = (("ring", (0, 2)), ("circle", (1, 3)))
        self.hats = (1, 2, 0, 10 ** 29)
        self.hall = Hall(self.counts, full_web(4), self.groups)
        self.hall.put_all(self.hats)

    def tearDown(self):
        self.told(self.hall, self.counts, self.groups, self.hats)

    def deed_refused(self, kind, deed, *told):
        self.refused(kind, deed, *told)
        self.told(self.hall, self.counts, self.groups, self.hats)

    def test_no_such_person(self):
        for i in (-1, -2, -4, -5, 4, 5, 8, 64, HUGE, -HUGE):
            for colour in (0, 1, 2, -1, HUGE, -HUGE):
                self.deed_refused(NoName, self.hall.put, i, colour)

    def test_no_colour_of_that_one(self):
        for i, count in enumerate(self.counts):
            for colour in (-1, -2, -count, count, count + 1, HUGE, -HUGE, 10 ** 59):
                self.deed_refused(NoHats, self.hall.put, i, colour)
        # A colour of somebody else.
        self.deed_refused(NoHats, self.hall.put, 0, 2)
        self.deed_refused(NoHats, self.hall.put, 2, 2)
        self.deed_refused(NoHats, self.hall.put, 1, 3)

    def test_too_few_or_too_many_hats(self):
        for many in (0, 1, 3, 5, 8, 20):
            self.deed_refused(NoHats, self.hall.put_all, (0,) * many)
            self.deed_refused(NoHats, self.hall.put_all, (1,) * many)
        self.deed_refused(NoHats, self.hall.put_all, self.hats + (0,))
        self.deed_refused(NoHats, self.hall.put_all, self.hats[:3])

    def test_one_of_the_hats_is_no_colour(self):
        for i, count in enumerate(self.counts):
            for colour in (-1, -count, count, count + 1, HUGE, -HUGE):
                self.deed_refused(NoHats, self.hall.put_all, (0,) * i + (colour,) + (0,) * (3 - i))
                self.deed_refused(NoHats, self.hall.put_all, self.hats[:i] + (colour,) + self.hats[i + 1:])

    def test_of_nobody(self):
        hall = Hall((), (), ())
        for i in (-1, 0, 1, HUGE):
            for colour in (0, -1, HUGE):
                self.refused(NoName, hall.put, i, colour)
        for hats in ((0,), (0, 0), (-1,)):
            self.refused(NoHats, hall.put_all, hats)
        self.told(hall, (), (), ())

    def test_of_nobody_but_one(self):
        hall = Hall((1,), (0,), ())
        self.refused(NoHats, hall.put, 0, 1)
        self.refused(NoHats, hall.put_all, ())
        self.refused(NoHats, hall.put_all, (1,))
        hall.put(0, 0)
        self.told(hall, (1,), (), (0,))

    def test_deeds_behind_a_refusal(self):
        self.deed_refused(NoHats, self.hall.put_all, (0, 0, 2, 0))
        self.hall.put(2, 1)
        self.hats = (1, 2, 1, 10 ** 29)


class OnesOwn(Kept):
    def test_lists_are_new(self):
        hall = Hall((1, 1), (0, 0), ())
        first = hall.right()
        self.assertEqual(first, [0, 1])
        self.assertIsNot(hall.right(), first)
        first.append(7)
        self.assertEqual(hall.right(), [0, 1])
        second = hall.right()
        second.clear()
        self.assertEqual(hall.right(), [0, 1])

    def test_no_later_deed_changes_what_was_told(self):
        hall = Hall((2, 2), (2, 1), (("circle", (0, 1)),))
        hats = hall.hats()
        right = hall.right()
        kept = list(right)
        hall.put(0, 1)
        hall.put_all((1, 1))
        self.assertEqual(hats, (0, 0))
        self.assertEqual(right, kept)

    def test_one_hall_changes_nothing_at_another(self):
        counts = (2, 3)
        groups = (("circle", (0, 1)),)
        one = Hall(counts, (2, 1), groups)
        other = Hall(counts, (2, 1), groups)
        one.put_all((1, 2))
        self.told(other, counts, groups, (0, 0))
        other.put(1, 1)
        self.told(one, counts, groups, (1, 2))
        self.told(Hall(counts, (2, 1), groups), counts, groups, (0, 0))
        self.told(other, counts, groups, (0, 1))

    def test_asked_again(self):
        hall = Hall((2, 2, 2), (2, 4, 1), (("ring", (0, 1, 2)),))
        for hats in all_hats((2, 2, 2)):
            hall.put_all(hats)
            first = ([hall.guess(i) for i in range(3)], hall.right(), hall.hats())
            again = ([hall.guess(i) for i in range(3)], hall.right(), hall.hats())
            self.assertEqual(first, again)


class Arguments(unittest.TestCase):
    def test_names(self):
        for function, names in ((Hall, ["counts", "web", "groups"]), (Hall.put_all, ["self", "hats"]),
                                (Hall.put, ["self", "i", "colour"]), (Hall.hats, ["self"]),
                                (Hall.guess, ["self", "i"]), (Hall.right, ["self"])):
            self.assertEqual(list(inspect.signature(function).parameters), names)
        hall = Hall(counts=(2, 2), web=(2, 1), groups=())
        hall.put_all(hats=(1, 1))
        hall.put(i=0, colour=0)
        self.assertEqual((hall.hats(), hall.guess(i=1)), ((0, 1), 0))


if __name__ == "__main__":
    unittest.main()
