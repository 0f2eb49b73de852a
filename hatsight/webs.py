"""Webs: who sees whom, told as a mask for each person."""


def places(mask):
    return [i for i in range(mask.bit_length()) if (mask >> i) & 1 == 1]


def sees(web, i, j):
    return (web[i] >> j) & 1 == 1


def is_circle(web, people):
    crowd = sum([1 << i for i in people])
    for i in people:
        others = crowd - (1 << i)
        if web[i] & others != others:
            return False
    return True


def is_ring(web, people):
    if len(people) < 2 or len(set(people)) < len(people):
        return False
    followers = people[1:] + people[:1]
    return all([sees(web, i, j) for i, j in zip(people, followers)])


def first_ready(web, laid):
    for i, mask in enumerate(web):
        if (laid >> i) & 1 == 0 and mask | laid == laid:
            return i
    return None


# Whoever is left over when nobody is ready sees another one who is left over:
# so an order that lacks people tells that there is a ring among them.
def laid_out(web):
    order = []
    laid = 0
    i = first_ready(web, laid)
    while i is not None:
        order.append(i)
        laid = laid | (1 << i)
        i = first_ready(web, laid)
    return order


def sight_order(web):
    order = laid_out(web)
    if len(order) < len(web):
        return None
    return tuple(order)


def first_seen(web, i, people):
    return [j for j in people if sees(web, i, j)][0]


def sight_ring(web):
    order = laid_out(web)
    left = [i for i in range(len(web)) if i not in order]
    if left == []:
        return None
    path = []
    i = left[0]
    while i not in path:
        path.append(i)
        i = first_seen(web, i, left)
    # What was walked before the first return leads to the ring but is no part of it.
    return tuple(path[path.index(i):])
