"""Games: a hidden thing with a label, and questions that are answered yes or no of it."""

from flips.errors import Alike, NoEnd
from flips.places import is_on, set_holding, switches_of
from flips.reckoner import Reckoner
from flips.sums import is_pair
from flips.wholes import is_whole

MOST_THINGS = 16
MOST_ROWS = 16


def is_game(thing):
    if not is_pair(thing) or not has_some(MOST_THINGS, thing[0]) or not has_some(MOST_ROWS, thing[1]):
        return False
    if not all([is_whole(label) for label in thing[0]]):
        return False
    return all([is_row(len(thing[0]), row) for row in thing[1]])


def has_some(most, thing):
    return isinstance(thing, tuple) and 1 <= len(thing) <= most


def is_row(things, thing):
    if not isinstance(thing, tuple) or len(thing) != things:
        return False
    return all([isinstance(answer, bool) for answer in thing])


def game_of(table):
    labels = [1 if answer else 0 for answer in table]
    rows = [tuple([is_on(place, switch) for place in range(len(table))]) for switch in range(switches_of(table))]
    return (tuple(labels), tuple(rows))


def class_game(tables):
    for other, table in enumerate(tables):
        one = tables.index(table)
        if one < other:
            raise Alike(one, other)
    rows = [tuple([table[place] for table in tables]) for place in range(len(tables[0]))]
    return (tuple(range(len(tables))), tuple(rows))


def left_by(game, things, question, answer):
    row = game[1][question]
    return tuple([thing for thing in things if row[thing] == answer])


def ends(game):
    return first_unparted(game) is None


def refuse_without_end(game):
    found = first_unparted(game)
    if found is not None:
        raise NoEnd(found[0], found[1])


# The first two things that no question can tell apart though their labels are unlike, else None.
def first_unparted(game):
    labels = game[0]
    answers = [[row[thing] for row in game[1]] for thing in range(len(labels))]
    for one in range(len(labels)):
        for other in range(one + 1, len(labels)):
            if labels[one] != labels[other] and answers[one] == answers[other]:
                return (one, other)
    return None


def fewest_of(game, things):
    return Reckoner(game).fewest_among(set_holding(things))
