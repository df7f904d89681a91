"""Trees of a game: which question to ask next, by the answers so far, and which label to say in the end."""

from flips.nesting import keeps_to
from flips.wholes import is_below, is_whole

MOST_TREES = 2000
MOST_WITHIN = 16


def is_tree(game, thing):
    return keeps_to(lambda part: has_tree_form(len(game[1]), part), trees_within, is_too_large_tree, thing)


# Whether a thing begins as a tree does; what is within it is looked at by itself.
def has_tree_form(questions, thing):
    if not isinstance(thing, tuple) or len(thing) < 2:
        return False
    if thing[0] == "say":
        return len(thing) == 2 and is_whole(thing[1])
    return thing[0] == "ask" and len(thing) == 4 and is_below(questions, thing[1])


def trees_within(tree):
    return () if tree[0] == "say" else tree[2:]


def is_too_large_tree(many, depth):
    return many > MOST_TREES or depth > MOST_WITHIN


def asked(game, tree, thing):
    spot = tree
    asks = 0
    while spot[0] == "ask":
        spot = spot[3] if game[1][spot[1]][thing] else spot[2]
        asks = asks + 1
    return (spot[1], asks)
