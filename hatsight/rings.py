"""Rings: people with two colours each, of whom each sees the next one round a ring."""


# All but the last one guess that the own hat is unlike the next one. Where they are all
# wrong, all hats are alike; and then the last one, who guesses what is seen, is right.
def ring_guess(many, i, seen):
    if i == many - 1:
        return seen
    return 1 - seen
