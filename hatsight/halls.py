"""Halls: people who wear hats and guess by the plan of their groups."""

from hatsight.errors import NoGroups, NoHats, NoName
from hatsight.groups import group_fault, group_guess


def are_hats(counts, hats):
    return len(hats) == len(counts) and all([0 <= colour < count for colour, count in zip(hats, counts)])


class Hall:
    def __init__(self, counts, web, groups):
        if group_fault(counts, web, groups) is not None:
            raise NoGroups("these are no groups of the web")
        self.counts = counts
        self.groups = groups
        self.worn = (0,) * len(counts)

    def put_all(self, hats):
        if not are_hats(self.counts, hats):
            raise NoHats("these are no hats of these people")
        self.worn = hats

    def put(self, i, colour):
        if not 0 <= i < len(self.counts):
            raise NoName("there is no such person")
        self.put_all(self.worn[:i] + (colour,) + self.worn[i + 1:])

    def hats(self):
        return self.worn

    def guess(self, i):
        return group_guess(self.counts, self.groups, self.worn, i)

    def right(self):
        return [i for i, colour in enumerate(self.worn) if self.guess(i) == colour]
