"""Plans as tables: for each person a guess at the place of each code of what is seen."""

from hatsight.circles import product
from hatsight.groups import group_guess
from hatsight.webs import places, sight_order


def code(counts, web, hats, i):
    number = 0
    weight = 1
    for j in places(web[i]):
        number = number + hats[j] * weight
        weight = weight * counts[j]
    return number


# Hats of the people of a mask by their code; the others, who play no part in it, have 0.
def coded_hats(counts, mask, number):
    hats = [0] * len(counts)
    for j in places(mask):
        hats[j] = number % counts[j]
        number = number // counts[j]
    return tuple(hats)


def all_hats(counts):
    everybody = (1 << len(counts)) - 1
    return [coded_hats(counts, everybody, number) for number in range(product(counts))]


def guess_of(counts, web, plan, hats, i):
    return plan[i][code(counts, web, hats, i)]


def told(counts, web, plan, hats):
    return tuple([guess_of(counts, web, plan, hats, i) for i in range(len(counts))])


def rights_at(counts, web, plan, hats):
    guesses = told(counts, web, plan, hats)
    return len([i for i, guess in enumerate(guesses) if guess == hats[i]])


def rights(counts, web, plan):
    return sum([rights_at(counts, web, plan, hats) for hats in all_hats(counts)])


def fewest(counts, web, plan):
    scores = [(rights_at(counts, web, plan, hats), hats) for hats in all_hats(counts)]
    return min(scores)


# Going by the order of sight, the hats that a person sees are put on before the own one:
# the guess stands, and the own hat is chosen against it.
def foe(counts, web, plan):
    order = sight_order(web)
    if order is None or any([count < 2 for count in counts]):
        return None
    hats = [0] * len(counts)
    for i in order:
        hats[i] = 1 if guess_of(counts, web, plan, hats, i) == 0 else 0
    return tuple(hats)


def table_of(counts, web, groups, i):
    codes = product([counts[j] for j in places(web[i])])
    seen = [coded_hats(counts, web[i], number) for number in range(codes)]
    return tuple([group_guess(counts, groups, hats, i) for hats in seen])


def plan_of(counts, web, groups):
    return tuple([table_of(counts, web, groups, i) for i in range(len(counts))])
