"""Points 2 to 4 over the whole program: from a text at the desk on, what is made sure."""

import itertools
import math
import random
import unittest
from fractions import Fraction

from hatsight.circles import share, sure
from hatsight.desk import Desk
from hatsight.groups import best_groups, made_sure
from hatsight.halls import Hall
from hatsight.lines import read_book, shown_book
from hatsight.passing import active, is_bad, pass_guess, score
from hatsight.rows import row_guess
from hatsight.tables import fewest, foe, plan_of, rights, told
from hatsight.unlike import unlike_guess
from hatsight.webs import sight_order

LARGEST = 10 ** 30 - 1
NAMES = ("zoe", "ann", "mia", "bob", "eve", "tom", "x", "abcdefghijkl")


def all_hats(counts):
    return list(itertools.product(*[range(count) for count in counts]))


def all_webs(many):
    masks = [[mask for mask in range(1 << many) if not mask & (1 << i)] for i in range(many)]
    return itertools.product(*masks)


def full_web(many):
    return tuple(((1 << many) - 1) & ~(1 << i) for i in range(many))


def web_of(many, sights):
    masks = [0] * many
    for i, j in sights:
        masks[i] |= 1 << j
    return tuple(masks)


def chance_web(chance, many, of):
    return web_of(many, [(i, j) for i in range(many) for j in range(many) if i != j and chance.random() < of])


def bounds(counts):
    exact = sum((Fraction(1, count) for count in counts), Fraction(0))
    return math.floor(exact), math.ceil(exact)


def text_of(counts, web):
    return shown_book((NAMES[:len(counts)], counts, web))


def put_on(desk, hats):
    for name, colour in zip(NAMES, hats):
        desk.ask(f"put {name} {colour}")


def right_ones(desk):
    return [NAMES.index(name) for text in desk.ask("right") for name in text.split(" ")]


def guesses(desk, many):
    return [int(desk.ask("guess " + name)[0]) for name in NAMES[:many]]


def some_hats(chance, desk, counts):
    yield (0,) * len(counts)
    yield tuple(count - 1 for count in counts)
    for step in range(4):
        hats = tuple(chance.randrange(count) for count in counts)
        yield hats
        # Of large counts chance hardly meets hats at which many are right.
        put_on(desk, hats)
        for i in chance.sample(range(len(counts)), len(counts)):
            hats = hats[:i] + (guesses(desk, len(counts))[i],) + hats[i + 1:]
            put_on(desk, hats)
            yield hats


class EverybodySeesEverybody(unittest.TestCase):
    def check(self, desk, counts, hats):
        down, up = bounds(counts)
        put_on(desk, hats)
        right = len(right_ones(desk))
        if not down <= right <= up:
            self.fail(f"{right} are right: {counts} {hats}")

    def test_over_all_hats_of_small_counts(self):
        several = [counts for many, largest in ((1, 5), (2, 4), (3, 3)) for counts in
                   itertools.product(range(1, largest + 1), repeat=many)]
        several.extend([(2, 2, 3, 3), (3, 3, 3, 3), (2, 3, 6), (2, 2, 2, 2, 2), (1, 2, 2, 3), (3, 4, 2, 2), (2,) * 7])
        for counts in several:
            desk = Desk(text_of(counts, full_web(len(counts))))
            self.assertEqual(desk.ask("sure"), [str(bounds(counts)[0])])
            for hats in all_hats(counts):
                self.check(desk, counts, hats)

    def test_eight(self):
        chance = random.Random(56)
        for counts in ((2,) * 8, (3,) * 8, (LARGEST,) * 8, (2, 2, 3, 3, 3, 4, 5, 5), (2, 2, LARGEST, LARGEST - 1, 3, 3, 3, 2),
                       (2, 3, 6, 7, 42, 43, 1807, 3263443), (1, 1, 5, 5, 5, 5, 5, LARGEST)):
            desk = Desk(text_of(counts, full_web(8)))
            self.assertEqual(desk.ask("sure"), [str(bounds(counts)[0])])
            for hats in some_hats(chance, desk, counts):
                self.check(desk, counts, hats)

    def test_each_guesses_by_the_hats_of_others_alone(self):
        chance = random.Random(57)
        for counts in ((2, 3, 4), (2,) * 8, (LARGEST, 2, 3)):
            desk = Desk(text_of(counts, full_web(len(counts))))
            for hats in some_hats(chance, desk, counts):
                for i, count in enumerate(counts):
                    put_on(desk, hats)
                    before = guesses(desk, len(counts))[i]
                    desk.ask(f"put {NAMES[i]} {chance.randrange(count)}")
                    self.assertEqual(guesses(desk, len(counts))[i], before)


class AnyWeb(unittest.TestCase):
    # No plan makes more sure than the share rounded down, nor do the groups told.
    def check(self, counts, web):
        desk = Desk(text_of(counts, web))
        many = int(desk.ask("sure")[0])
        groups = best_groups(counts, web)
        self.assertEqual(many, made_sure(counts, groups))
        self.assertLessEqual(many, bounds(counts)[0])
        over, under = [int(part) for part in desk.ask("share")[0].split("/")]
        self.assertEqual((over, under), share(counts))
        self.assertEqual(sure(counts), over // under)
        plan = plan_of(counts, web, groups)
        self.assertEqual(rights(counts, web, plan) * under, over * len(all_hats(counts)))
        least, worst = fewest(counts, web, plan)
        self.assertTrue(many <= least <= bounds(counts)[0])
        total = 0
        for hats in all_hats(counts):
            put_on(desk, hats)
            right = right_ones(desk)
            self.assertGreaterEqual(len(right), least)
            total += len(right)
            self.assertEqual(tuple(guesses(desk, len(counts))), told(counts, web, plan, hats))
        self.assertEqual(total, rights(counts, web, plan))
        put_on(desk, worst)
        self.assertEqual(len(right_ones(desk)), least)
        self.check_foe(desk, counts, web, plan)

    def check_foe(self, desk, counts, web, plan):
        hats = foe(counts, web, plan)
        blind = sight_order(web) is not None and all(count >= 2 for count in counts)
        self.assertEqual(hats is not None, blind)
        if blind:
            put_on(desk, hats)
            self.assertEqual(desk.ask("right"), [])
            self.assertEqual(desk.ask("sure"), ["0"])
            self.assertEqual(desk.ask("ring"), [])

    def test_nobody(self):
        self.check((), ())

    def test_all_webs_of_up_to_three(self):
        for many in (1, 2, 3):
            for web in all_webs(many):
                for counts in ((2, 2, 2), (2, 3, 2), (1, 2, 3)):
                    self.check(counts[:many], web)

    def test_some_webs_of_up_to_eight(self):
        chance = random.Random(58)
        for counts in ((2,) * 4, (2, 3, 2, 3), (2, 2, 4, 4), (2,) * 5, (2, 2, 2, 3, 3), (2,) * 6, (2,) * 8):
            for of in (0.2, 0.5, 0.8):
                self.check(counts, chance_web(chance, len(counts), of))

    def test_large_counts(self):
        chance = random.Random(59)
        for step in range(40):
            counts = tuple(chance.choice((2, 2, 3, 6, LARGEST, 10 ** 29)) for i in range(8))
            desk = Desk(text_of(counts, chance_web(chance, 8, chance.choice((0.4, 0.7, 0.9)))))
            for hats in some_hats(chance, desk, counts):
                put_on(desk, hats)
                self.assertGreaterEqual(len(right_ones(desk)), int(desk.ask("sure")[0]))

    def test_rings(self):
        chance = random.Random(60)
        for many in range(2, 9):
            way = chance.sample(range(many), many)
            desk = Desk(text_of((2,) * many, web_of(many, [(way[k - 1], way[k]) for k in range(many)])))
            self.assertEqual(desk.ask("sure"), ["1"])
            for hats in all_hats((2,) * many):
                put_on(desk, hats)
                self.assertNotEqual(desk.ask("right"), [])


class OtherPeople(unittest.TestCase):
    def test_a_row_of_a_book(self):
        names, counts, web = read_book("hat ann 5\nhat bob 3\nhat cat 5\nhat dan 1")
        for hats in all_hats(counts):
            heard = ()
            for i in range(4):
                heard = heard + (row_guess(counts, i, heard, hats[i + 1:]),)
            self.assertEqual(heard[1:], hats[1:])

    def test_people_who_may_pass(self):
        for many in (1, 3):
            self.assertEqual(active(many), many)
            plan = tuple(tuple(pass_guess(many, i, (number & ((1 << i) - 1)) | (number >> i << (i + 1)))
                               for number in range(1 << (many - 1))) for i in range(many))
            lost = sum(is_bad(many, hats) for hats in range(1 << many))
            self.assertEqual(score(many, plan)[0], (1 << many) - lost)
            self.assertEqual(lost * (many + 1), 1 << many)

    def test_hats_all_unlike(self):
        for order in itertools.permutations(range(6)):
            hats = order[:-1]
            heard = ()
            for i in range(5):
                heard = heard + (unlike_guess(5, i, heard, hats[i + 1:]),)
            self.assertEqual(heard[1:], hats[1:])
            self.assertEqual(len(set(heard)), 5)


class NothingIsChanged(unittest.TestCase):
    # Lists would tell of a change; what is only read may be told as one.
    def test_tables_that_are_scored(self):
        plan = [[0, 1], [None, 1]]
        score(2, plan)
        self.assertEqual(plan, [[0, 1], [None, 1]])

    def test_one_desk_among_halls(self):
        text = text_of((2, 2, 3), full_web(3))
        desk = Desk(text)
        hall = Hall((2, 2, 3), full_web(3), best_groups((2, 2, 3), full_web(3)))
        for hats in all_hats((2, 2, 3)):
            hall.put_all(hats)
            self.assertEqual(right_ones(Desk(text)), right_ones(desk))
        put_on(desk, (1, 1, 2))
        self.assertEqual(hall.hats(), (1, 1, 2))
        hall.put(0, 0)
        self.assertEqual(guesses(desk, 3), guesses(self.put_alike(text), 3))

    def put_alike(self, text):
        desk = Desk(text)
        put_on(desk, (1, 1, 2))
        return desk


if __name__ == "__main__":
    unittest.main()
