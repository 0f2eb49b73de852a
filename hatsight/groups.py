"""Groups: circles and rings of a web that share nobody, and what they make sure."""

from hatsight.circles import circle_guess, sure
from hatsight.rings import ring_guess
from hatsight.webs import is_circle, is_ring, places, sight_ring


def rises(people):
    return all([i < j for i, j in zip(people, people[1:])])


def is_group(counts, web, kind, people):
    # Masks are made of the numbers below, so numbers of nobody must not come there.
    if len(people) < 1 or not all([0 <= i < len(counts) for i in people]):
        return False
    if kind == "circle":
        return rises(people) and is_circle(web, people)
    return kind == "ring" and is_ring(web, people) and all([counts[i] == 2 for i in people])


def group_fault(counts, web, groups):
    taken = {}
    for place, group in enumerate(groups):
        people = group[1]
        if not is_group(counts, web, group[0], people) or any([i in taken for i in people]):
            return place
        for i in people:
            taken[i] = True
    return None


def picked(values, people):
    return tuple([values[i] for i in people])


def group_sure(counts, kind, people):
    if kind == "ring":
        return 1
    return sure(picked(counts, people))


def made_sure(counts, groups):
    return sum([group_sure(counts, kind, people) for kind, people in groups])


def group_guess(counts, groups, hats, i):
    for kind, people in groups:
        if i in people:
            place = people.index(i)
            if kind == "ring":
                return ring_guess(len(people), place, hats[people[(place + 1) % len(people)]])
            return circle_guess(picked(counts, people), picked(hats, people), place)
    return 0


# The others see nobody here, and so no ring goes through them.
def sights_from(web, people):
    return tuple([mask if i in people else 0 for i, mask in enumerate(web)])


# One group for a crowd: all of it as a circle, else a ring among it; its smaller circles
# are found with smaller crowds. A circle is worth no less than a ring among its people, as
# two of them who have the count 2 make one sure.
def lone_group(counts, web, crowd):
    people = tuple(places(crowd))
    if is_circle(web, people):
        return (("circle", people),)
    twos = [i for i in people if counts[i] == 2]
    ring = sight_ring(sights_from(web, twos))
    if ring is None:
        return ()
    return (("ring", ring),)


def lone_choices(counts, web):
    choices = [(0, ())]
    for crowd in range(1, 1 << len(web)):
        groups = lone_group(counts, web, crowd)
        choices.append((made_sure(counts, groups), groups))
    return choices


def parts_of(crowd):
    parts = [0]
    for i in places(crowd):
        parts = parts + [part + (1 << i) for part in parts]
    return parts


# The first one of a crowd is in no group, or in one with some part of the others: so the
# best of a crowd is found from the best of smaller ones. One group for the whole crowd
# stays where others make no more sure: so people who all see one another are one circle,
# and no more of them are right than their share, rounded up.
def best_choice(lone, best, crowd):
    first = crowd & -crowd
    others = crowd - first
    found = lone[crowd]
    if best[others][0] > found[0]:
        found = best[others]
    for part in parts_of(others):
        group = lone[first + part]
        rest = best[others - part]
        if group[0] + rest[0] > found[0]:
            found = (group[0] + rest[0], group[1] + rest[1])
    return found


def best_groups(counts, web):
    lone = lone_choices(counts, web)
    best = [(0, ())]
    for crowd in range(1, len(lone)):
        best.append(best_choice(lone, best, crowd))
    return best[-1][1]
