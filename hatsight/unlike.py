"""Hats all unlike: people in a row, one hat more than people, and nobody says what was said."""


def is_even(row):
    turns = 0
    for place, number in enumerate(row):
        turns = turns + len([other for other in row[:place] if other > number])
    return turns % 2 == 0


# Everybody lacks two hats: one for the own place, one for the place of the hat that is
# left away, behind all. Exchanging both turns an odd row into an even one, so just one way
# is even, and that one is said. The first one may be wrong, but all later ones find
# the same even row again, with the number that the first one said at its start.
def unlike_guess(many, i, heard, later):
    known = heard + later
    lacking = [number for number in range(many + 1) if number not in known]
    own = lacking[0]
    left = lacking[1]
    if is_even(heard + (own,) + later + (left,)):
        return own
    return left
