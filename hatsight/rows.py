"""Rows: people who guess in turn, hear all earlier guesses and see all later hats."""

from hatsight.errors import NoPlan


# The first one says the sum of all later hats, counted round by the own count. Every later
# one then knows all of that sum but the own hat; and as no count is greater than the
# first one's, what is lacking tells just one colour.
def row_guess(counts, i, heard, later):
    first = counts[0]
    if max(counts) > first:
        raise NoPlan("a hat has more colours than the first one's")
    if i == 0:
        return sum(later) % first
    lacking = (heard[0] - sum(heard[1:]) - sum(later)) % first
    # After guesses that were made otherwise, what is lacking may be no colour of i.
    return lacking % counts[i]
