"""Lines and books: texts of hats and of who sees whom."""

from hatsight.errors import NoLine, TooMany, Twice, Unknown
from hatsight.webs import places

LETTERS = "abcdefghijklmnopqrstuvwxyz"
FIGURES = "0123456789"
LONGEST_NAME = 12
LONGEST_COUNT = 30
MOST_PEOPLE = 8


def is_name(word):
    if not 1 <= len(word) <= LONGEST_NAME:
        return False
    return all([sign in LETTERS for sign in word])


def is_count(word):
    if not 1 <= len(word) <= LONGEST_COUNT or word[0] == "0":
        return False
    return all([sign in FIGURES for sign in word])


def is_hat_line(words):
    return len(words) == 3 and words[0] == "hat" and is_name(words[1]) and is_count(words[2])


def is_sees_line(words):
    return len(words) >= 3 and words[0] == "sees" and all([is_name(word) for word in words[1:]])


def read_line(text, line=0):
    words = text.split(" ")
    if is_hat_line(words):
        return ("hat", words[1], int(words[2]))
    if not is_sees_line(words):
        raise NoLine(line)
    names = words[1:]
    if len(set(names)) < len(names):
        raise Twice(line)
    return ("sees", names[0], tuple(names[1:]))


def add_hat(numbers, name, line):
    if name in numbers:
        raise Twice(line)
    if len(numbers) >= MOST_PEOPLE:
        raise TooMany(line)
    numbers[name] = len(numbers)


def add_sight(numbers, web, name, seen, line):
    # A sees line names somebody, so a mask that is not 0 tells of one above.
    if name in numbers and web[numbers[name]] != 0:
        raise Twice(line)
    if not all([other in numbers for other in (name,) + seen]):
        raise Unknown(line)
    web[numbers[name]] = sum([1 << numbers[other] for other in seen])


def rows_of(text):
    if text == "":
        return []
    return text.split("\n")


def read_book(text):
    numbers = {}
    counts = []
    web = []
    for line, row in enumerate(rows_of(text)):
        told = read_line(row, line)
        if told[0] == "hat":
            add_hat(numbers, told[1], line)
            counts.append(told[2])
            web.append(0)
        else:
            add_sight(numbers, web, told[1], told[2], line)
    return (tuple(numbers), tuple(counts), tuple(web))


def shown_book(book):
    names = book[0]
    rows = [f"hat {name} {count}" for name, count in zip(names, book[1])]
    for i, mask in enumerate(book[2]):
        if mask != 0:
            seen = [names[j] for j in places(mask)]
            rows.append(" ".join(["sees", names[i]] + seen))
    return "\n".join(rows)
