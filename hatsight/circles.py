"""Circles: people who all see one another, and how many of them are right."""


def greatest_divisor(a, b):
    while b != 0:
        rest = a % b
        a = b
        b = rest
    return a


def share(counts):
    over = 0
    under = 1
    for count in counts:
        over = over * count + under
        under = under * count
    divisor = greatest_divisor(over, under)
    return (over // divisor, under // divisor)


def sure(counts):
    told = share(counts)
    return told[0] // told[1]


def product(counts):
    whole = 1
    for count in counts:
        whole = whole * count
    return whole


# Each colour is a turn of a wheel: colour h of count c turns it by h / c. Each one
# guesses that the wheel stands in the own arc, which is 1 / c long: of the own
# colours just one brings it there. The arcs lie end to end round the wheel, so every
# point of it lies in as many of them as the share is, rounded down or up.
# The wheel is measured in steps, the product of all counts many, to stay exact.
def circle_guess(counts, hats, i):
    wheel = product(counts)
    arc = wheel // counts[i]
    start = sum([wheel // count for count in counts[:i]])
    seen = sum([hats[j] * (wheel // counts[j]) for j in range(len(counts)) if j != i])
    lacking = (start - seen) % wheel
    return (lacking + arc - 1) // arc % counts[i]
