"""How many asks some things of a game need. Things are held as one whole number, like a set of switches."""

from flips.places import members_of, set_holding, within
from flips.wholes import two_to


# What was reckoned is kept, since many ways of asking come to the same things. A game handed in is read once, when
# the reckoner is made.
class Reckoner:
    def __init__(self, game):
        self.labels = tuple(game[0])
        self.yeses = [set_holding(members_where(True, row)) for row in game[1]]
        self.alike = [set_holding(members_where(label, self.labels)) for label in sorted(set(self.labels))]
        self.known = {}

    def everything(self):
        return two_to(len(self.labels)) - 1

    def has_one_label(self, things):
        return any([within(things, alike) for alike in self.alike])

    def label_of(self, things):
        return self.labels[members_of(things)[0]]

    def left_of(self, things, question, answer):
        yes = things & self.yeses[question]
        return yes if answer else things - yes

    def fewest_among(self, things):
        if things not in self.known:
            self.known[things] = self.fewest_reckoned(things)
        return self.known[things]

    def fewest_reckoned(self, things):
        if self.has_one_label(things):
            return 0
        return 1 + min([self.worst_behind(things, question) for question in self.parting(things)])

    def parting(self, things):
        return [question for question, yes in enumerate(self.yeses) if 0 < things & yes < things]

    def worst_behind(self, things, question):
        return self.fewest_among(self.harder_left(things, question))

    # Of what is left by no and by yes the one that needs more asks.
    def harder_left(self, things, question):
        no = self.left_of(things, question, False)
        yes = self.left_of(things, question, True)
        return yes if self.fewest_among(yes) > self.fewest_among(no) else no

    def harder_lefts(self, things):
        return [self.harder_left(things, question) for question in range(len(self.yeses))]

    # Of several questions by which it is least min takes the first.
    def first_question(self, things):
        return min(self.parting(things), key=lambda question: self.worst_behind(things, question))


def members_where(wanted, values):
    return [member for member, each in enumerate(values) if each == wanted]
