"""Points 4 and 22: people in a row whose hats are all unlike."""

import inspect
import itertools
import random
import unittest

from hatsight.unlike import unlike_guess


def spoken(hats):
    heard = ()
    for i in range(len(hats)):
        heard = heard + (unlike_guess(len(hats), i, heard, tuple(hats[i + 1:])),)
    return heard


# Orders of one hat more than people: the last one of each is left away.
def chance_order(chance, many):
    return tuple(chance.sample(range(many + 1), many + 1))


class Unlike(unittest.TestCase):
    def check(self, order):
        hats = order[:-1]
        said = spoken(hats)
        for number in said:
            if type(number) is not int or not 0 <= number <= len(hats):
                self.fail(f"{number!r} is no hat's number: {order}")
        if said[1:] != hats[1:]:
            self.fail(f"{said} is said: {order}")
        if len(set(said)) < len(said):
            self.fail(f"{said} is not all unlike: {order}")
        return said

    # By what is seen the first one cannot tell the own hat from the one left away.
    def exchanged(self, order):
        return (order[-1],) + order[1:-1] + (order[0],)

    def check_both(self, order):
        self.assertEqual(self.check(order), self.check(self.exchanged(order)))

    def test_over_all_orders_of_up_to_six(self):
        for many in range(1, 7):
            for order in itertools.permutations(range(many + 1)):
                self.check_both(order)

    def test_one_alone(self):
        said = unlike_guess(1, 0, (), ())
        self.assertIs(type(said), int)
        self.assertIn(said, (0, 1))
        self.assertEqual(self.check((0, 1)), (said,))
        self.assertEqual(self.check((1, 0)), (said,))

    # The first one says what is not seen: the own hat, or the one left away.
    def test_the_first_one_is_right_at_half_of_all_orders(self):
        for many in range(1, 6):
            orders = list(itertools.permutations(range(many + 1)))
            right = sum(spoken(order[:-1])[0] == order[0] for order in orders)
            self.assertEqual(right * 2, len(orders))
            for order in orders:
                self.assertIn(spoken(order[:-1])[0], (order[0], order[-1]))

    def test_each_one_left_away(self):
        for many in (7, 20, 60):
            for left in range(many + 1):
                rising = tuple(number for number in range(many + 1) if number != left)
                self.check_both(rising + (left,))
                self.check_both(rising[::-1] + (left,))

    def test_rows_of_up_to_sixty(self):
        chance = random.Random(45)
        for many in range(2, 61):
            for step in range(3):
                self.check_both(chance_order(chance, many))

    def test_many_rows_of_sixty(self):
        chance = random.Random(46)
        for step in range(20):
            self.check_both(chance_order(chance, 60))

    def test_somewhat_beyond_the_bounds(self):
        chance = random.Random(47)
        for many in (61, 64, 80):
            self.check_both(chance_order(chance, many))

    def test_the_same_number_of_people_has_the_same_plan(self):
        asked = [(4, i, spoken(order[:-1])[:i], order[i + 1:-1])
                 for order in itertools.permutations(range(5)) for i in range(4)]
        first = [unlike_guess(*one) for one in asked]
        again = [unlike_guess(*one) for one in reversed(asked)]
        self.assertEqual(first, again[::-1])


class Arguments(unittest.TestCase):
    def test_names(self):
        self.assertEqual(list(inspect.signature(unlike_guess).parameters), ["many", "i", "heard", "later"])
        self.assertEqual(unlike_guess(many=2, i=0, heard=(), later=(1,)), unlike_guess(2, 0, (), (1,)))


if __name__ == "__main__":
    unittest.main()
