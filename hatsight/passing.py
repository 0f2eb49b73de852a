"""Passing: people with two colours each who see all others, and guess or pass."""

from hatsight.webs import places


def active(many):
    return (1 << ((many + 1).bit_length() - 1)) - 1


# Person i is told by the number i + 1. The check of hats takes together, by "either, not
# both", the numbers of all active ones who have the colour 1: turning the hat of one
# about changes it by just that one's number. The numbers of the active ones are all that
# the check can be but 0; so from any other check just one hat, turned about, leads to 0.
def check(many, hats):
    number = 0
    for i in places(hats):
        if i < active(many):
            number = number ^ (i + 1)
    return number


def is_bad(many, hats):
    return check(many, hats) == 0


# Everybody guesses against the bad hats: who could have a hat that makes them bad takes
# it that the own hat is the other one.
def pass_guess(many, i, others):
    if i >= active(many):
        return None
    own = 1 << i
    if is_bad(many, others & ~own):
        return 1
    if is_bad(many, others | own):
        return 0
    return None


# The code of what i sees, where all others are seen: the mask without the place of i.
def others_code(hats, i):
    earlier = hats & ((1 << i) - 1)
    return earlier + ((hats >> (i + 1)) << i)


def rights_and_wrongs(plan, hats):
    right = 0
    wrong = 0
    for i, table in enumerate(plan):
        guess = table[others_code(hats, i)]
        if guess is not None:
            if guess == (hats >> i) & 1:
                right = right + 1
            else:
                wrong = wrong + 1
    return (right, wrong)


def score(many, plan):
    told = [rights_and_wrongs(plan, hats) for hats in range(1 << many)]
    wins = len([pair for pair in told if pair[0] > 0 and pair[1] == 0])
    return (wins, sum([pair[0] for pair in told]), sum([pair[1] for pair in told]))
