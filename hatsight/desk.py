"""The desk: a book and its hall, asked by lines."""

from hatsight.circles import share
from hatsight.errors import NoAsk, NoName
from hatsight.groups import best_groups, made_sure
from hatsight.halls import Hall
from hatsight.lines import is_count, is_name, read_book, rows_of, shown_book
from hatsight.webs import sight_order, sight_ring

# What stands behind the first word of each ask.
FORMS = {
    "sure": (),
    "share": (),
    "groups": (),
    "ring": (),
    "order": (),
    "put": ("name", "colour"),
    "guess": ("name",),
    "right": (),
    "book": (),
}


def fits(part, word):
    if part == "name":
        return is_name(word)
    return word == "0" or is_count(word)


def is_ask(words):
    if words[0] not in FORMS:
        return False
    form = FORMS[words[0]]
    behind = words[1:]
    return len(behind) == len(form) and all([fits(part, word) for part, word in zip(form, behind)])


def number_of(names, name):
    if name not in names:
        raise NoName("the book does not have this name")
    return names.index(name)


# Nobody, or no such people at all, are told by no text rather than by an empty one.
def named(names, people):
    if people is None or len(people) == 0:
        return []
    return [" ".join([names[i] for i in people])]


def shown_share(counts):
    told = share(counts)
    over = told[0]
    under = told[1]
    return f"{over}/{under}"


def shown_group(names, kind, people):
    return " ".join([kind] + [names[i] for i in people])


# The asks on which the hats play no part.
def told_of(book, groups, ask):
    names = book[0]
    counts = book[1]
    web = book[2]
    if ask == "sure":
        return [str(made_sure(counts, groups))]
    if ask == "share":
        return [shown_share(counts)]
    if ask == "groups":
        return [shown_group(names, kind, people) for kind, people in groups]
    if ask == "ring":
        return named(names, sight_ring(web))
    if ask == "order":
        return named(names, sight_order(web))
    return rows_of(shown_book(book))


class Desk:
    def __init__(self, text=""):
        self.book = read_book(text)
        counts = self.book[1]
        web = self.book[2]
        self.hall = Hall(counts, web, best_groups(counts, web))

    def ask(self, line):
        words = line.split(" ")
        if not is_ask(words):
            raise NoAsk("no such ask")
        names = self.book[0]
        if words[0] == "put":
            self.hall.put(number_of(names, words[1]), int(words[2]))
            return []
        if words[0] == "guess":
            return [str(self.hall.guess(number_of(names, words[1])))]
        if words[0] == "right":
            return named(names, self.hall.right())
        return told_of(self.book, self.hall.groups, words[0])
