"""The checker of trees: whether so many asks are enough, whatever is hidden."""

from flips.trees import asked, is_tree


def lets_tree(game, d, thing):
    if not is_tree(game, thing):
        return False
    return all([comes_home(game, d, thing, hidden) for hidden in range(len(game[0]))])


def comes_home(game, d, tree, hidden):
    found = asked(game, tree, hidden)
    return found[0] == game[0][hidden] and found[1] <= d
