"""Point 2: nothing hangs on chance, and a new run tells the same."""

import os
import subprocess
import sys
import unittest

TOP = os.path.dirname(os.path.dirname(os.path.abspath(__file__)))

SCRIPT = """
import itertools
from hatsight.circles import circle_guess
from hatsight.desk import Desk
from hatsight.groups import best_groups, group_fault, made_sure
from hatsight.halls import Hall
from hatsight.lines import read_book, shown_book
from hatsight.passing import active, is_bad, pass_guess, score
from hatsight.rings import ring_guess
from hatsight.rows import row_guess
from hatsight.tables import code, fewest, foe, plan_of, rights, told
from hatsight.unlike import unlike_guess
from hatsight.webs import sight_order, sight_ring
masks = [[m for m in range(16) if not m & (1 << i)] for i in range(4)]
webs = list(itertools.product(*masks))
print([(sight_order(web), sight_ring(web)) for web in webs])
names = ("zoe", "ann", "mia", "bob")
print([shown_book((names, (2, 3, 4, 5), web)) for web in webs])
print([read_book(shown_book((names, (2, 3, 4, 5), web))) for web in webs])
for counts in ((2, 3, 4), (3, 3, 3), (5, 2, 10 ** 29)):
    for hats in itertools.product(range(2), repeat=3):
        print([circle_guess(counts, hats, i) for i in range(3)])
print([ring_guess(many, i, seen) for many in (2, 3, 60) for i in range(many) for seen in (0, 1)])
print([row_guess((5, 4, 3), i, (1, 2)[:i], (3, 2)[i:]) for i in range(3)])
for web in webs[::7]:
    for counts in ((2, 2, 2, 2), (2, 3, 2, 1)):
        groups = best_groups(counts, web)
        plan = plan_of(counts, web, groups)
        print(groups, group_fault(counts, web, groups), made_sure(counts, groups), plan)
        print(code(counts, web, (1, 1, 0, 0), 2), told(counts, web, plan, (1, 1, 0, 0)))
        print(rights(counts, web, plan), fewest(counts, web, plan), foe(counts, web, plan))
        hall = Hall(counts, web, groups)
        hall.put_all((1, 1, 0, 0))
        print(hall.hats(), [hall.guess(i) for i in range(4)], hall.right())
        desk = Desk(shown_book((names, counts, web)))
        print([desk.ask(line) for line in ("sure", "share", "groups", "ring", "order", "put mia 1", "right", "book")])
        print([desk.ask("guess " + name) for name in names])
for many in (1, 3, 5, 7):
    print(active(many), [is_bad(many, hats) for hats in range(1 << many)])
    print([pass_guess(many, i, hats) for hats in range(1 << many) for i in range(many)])
print(score(2, ((0, None), (1, 1))))
print([unlike_guess(4, 0, (), later) for later in itertools.permutations(range(5), 3)])
"""


def run_with(seed):
    around = dict(os.environ, PYTHONHASHSEED=seed, PYTHONPATH=TOP, PYTHONDONTWRITEBYTECODE="1")
    return subprocess.run([sys.executable, "-c", SCRIPT], env=around, capture_output=True, check=True).stdout


class Sameness(unittest.TestCase):
    def test_new_runs_tell_the_same(self):
        first = run_with("0")
        self.assertGreater(len(first), 1000)
        for seed in ("1", "2", "12345"):
            self.assertEqual(run_with(seed), first)


if __name__ == "__main__":
    unittest.main()
