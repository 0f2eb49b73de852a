"""Point 2: nothing hangs on chance, and a new run tells the same."""

import os
import subprocess
import sys
import unittest

TOP = os.path.dirname(os.path.dirname(os.path.abspath(__file__)))

SCRIPT = """
import itertools
from hatsight.circles import circle_guess
from hatsight.lines import read_book, shown_book
from hatsight.webs import sight_order, sight_ring
masks = [[m for m in range(16) if not m & (1 << i)] for i in range(4)]
webs = list(itertools.product(*masks))
print([(sight_order(web), sight_ring(web)) for web in webs])
names = ("zoe", "ann", "mia", "bob")
print([shown_book((names, (2, 3, 4, 5), web)) for web in webs])
print([read_book(shown_book((names, (2, 3, 4, 5), web))) for web in webs])
for counts in ((2, 3, 4), (3, 3, 3), (5, 2, 10 ** 29)):
    for hats in itertools.product(range(2), repeat=3):
        print([circle_guess(counts, hats, i) for i in range(3)])
"""


def run_with(seed):
    around = dict(os.environ, PYTHONHASHSEED=seed, PYTHONPATH=TOP, PYTHONDONTWRITEBYTECODE="1")
    return subprocess.run([sys.executable, "-c", SCRIPT], env=around, capture_output=True, check=True).stdout


class Sameness(unittest.TestCase):
    def test_new_runs_tell_the_same(self):
        first = run_with("0")
        self.assertGreater(len(first), 1000)
        for seed in ("1", "2", "12345"):
            self.assertEqual(run_with(seed), first)


if __name__ == "__main__":
    unittest.main()
