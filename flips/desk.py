"""A desk: functions kept by names, and rows of words that ask about them."""

from flips.asking import Asking
from flips.deskrows import row_of
from flips.errors import NoName, NoRow
from flips.formulas import table_of
from flips.games import class_game, fewest_of, game_of
from flips.mattering import matters
from flips.nearest import nearest
from flips.shaking import stays
from flips.shares import share_of
from flips.sums import sum_of

ASKING_WORDS = ("ask", "answer", "left")


class Desk:
    def __init__(self, n):
        self.n = n
        self.tables = {}
        self.asking = None
        self.sought = []

    def say(self, row):
        parts = row_of(self.n, row)
        word = parts[0]
        names = parts[1]
        if word in ASKING_WORDS and self.asking is None:
            raise NoRow(row)
        if word == "keep":
            self.tables[names[0]] = table_of(self.n, parts[2][0])
            return "ok"
        self.look_for(names)
        if word in ASKING_WORDS:
            return self.go_on(word, parts[2])
        if word == "find":
            return self.begin_asking(names)
        if word == "names":
            return " ".join(sorted(self.tables)) if len(self.tables) > 0 else "-"
        if word == "drop":
            self.tables.pop(names[0])
            return "ok"
        return told_of(self.tables[names[0]], word, parts[2])

    def look_for(self, names):
        for name in names:
            if name not in self.tables:
                raise NoName(name)

    # A find that is refused comes to no change: the asking is made ahead of both.
    def begin_asking(self, names):
        asking = Asking(class_game([self.tables[name] for name in names]))
        self.asking = asking
        self.sought = names
        return "ok"

    def go_on(self, word, things):
        if word == "answer":
            self.asking.say(things[0], things[1])
            return "ok"
        if word == "left":
            return " ".join([self.sought[thing] for thing in self.asking.left()])
        place = self.asking.ask()
        if place is None:
            return "found " + self.sought[self.asking.label()]
        return "ask " + str(place)


def told_of(table, word, numbers):
    total = sum_of(table)
    if word == "table":
        return table_text(table)
    if word == "sum":
        return " ".join([str(subset) + ":" + str(weight) for subset, weight in total[1]])
    if word == "matters":
        return share_text(matters(total, numbers[0]))
    if word == "stays":
        return share_text(stays(total, share_of(numbers[0], numbers[1])))
    if word == "nearest":
        found = nearest(total, numbers[0])
        return table_text(found[0]) + " " + str(found[1])
    return str(fewest_of(game_of(table), tuple(range(len(table)))))


def table_text(table):
    return "".join(["1" if answer else "0" for answer in table])


def share_text(share):
    return str(share[0]) + "/" + str(share[1])
