"""The fewest asks of a game, with a tree that shows that they are enough and a hard paper that none fewer are."""

from flips.games import refuse_without_end
from flips.places import members_of
from flips.reckoner import Reckoner


def fewest(game):
    refuse_without_end(game)
    reckoner = Reckoner(game)
    things = reckoner.everything()
    return (reckoner.fewest_among(things), best_tree(reckoner, things), hard_paper(reckoner, things))


def best_tree(reckoner, things):
    if reckoner.has_one_label(things):
        return ("say", reckoner.label_of(things))
    question = reckoner.first_question(things)
    no = best_tree(reckoner, reckoner.left_of(things, question, False))
    yes = best_tree(reckoner, reckoner.left_of(things, question, True))
    return ("ask", question, no, yes)


# By each question the harder things left need at least one ask fewer, so entries of these bear the entry; by a
# question that leaves all things these are the entry's own.
def hard_paper(reckoner, things):
    entries = {}
    level = [things]
    while len(level) > 0:
        below = []
        for each in level:
            number = reckoner.fewest_among(each)
            if number > 0 and each not in entries:
                entries[each] = number
                below.extend(reckoner.harder_lefts(each) if number > 1 else [])
        level = below
    return tuple([(members_of(each), number) for each, number in entries.items()])
