"""An asking: answers are told of a hidden thing of a game, until its label is known."""

from flips.errors import NoThing
from flips.games import refuse_without_end
from flips.places import members_of
from flips.reckoner import Reckoner


class Asking:
    def __init__(self, game):
        refuse_without_end(game)
        self.reckoner = Reckoner(game)
        self.fitting = self.reckoner.everything()

    def ask(self):
        if self.reckoner.has_one_label(self.fitting):
            return None
        return self.reckoner.first_question(self.fitting)

    def say(self, question, answer):
        fitting = self.reckoner.left_of(self.fitting, question, answer)
        if fitting == 0:
            raise NoThing(question)
        self.fitting = fitting

    def left(self):
        return members_of(self.fitting)

    def label(self):
        if self.reckoner.has_one_label(self.fitting):
            return self.reckoner.label_of(self.fitting)
        return None

    def most(self):
        return self.reckoner.fewest_among(self.fitting)
