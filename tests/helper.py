"""Draws and plain reckonings that the tests share; none of them uses the program."""

import ast
import functools
import inspect
import itertools
import random
from fractions import Fraction

WORDS = {"yes": 0, "no": 0, "at": 0, "not": 1, "both": 2, "either": 2, "odd": 2, "most": 3}
FORTY = 10 ** 40 - 1
SEVEN = ("NoText", "Alike", "NoEnd", "NoThing", "NoRow", "NoName", "NoTable")


def dice(name):
    return random.Random(name)


def frozen(thing):
    """A thing with its kinds, for comparing: True is no 1, a list is no tuple."""
    if isinstance(thing, (list, tuple)):
        return (type(thing).__name__, tuple(frozen(part) for part in thing))
    if isinstance(thing, dict):
        return ("dict", tuple((frozen(name), frozen(part)) for name, part in thing.items()))
    return (type(thing).__name__, thing)


def nested(kind, deep, innermost):
    thing = innermost
    for _ in range(deep):
        thing = {"list": [thing], "tuple": (thing,), "dict": {"in": thing}}[kind]
    return thing


def doubled(deep, word="both", innermost=("yes",)):
    """A tuple that, written out, would have 2 ** deep ends."""
    thing = innermost
    for _ in range(deep):
        thing = (word, thing, thing)
    return thing


def other_plain_things():
    """Plain things that are no place, table, formula or sum of any number of switches."""
    return [
        None, True, False, -1, 10 ** 39, -(10 ** 39), FORTY, -FORTY,
        "", "0", "1", "yes", "at 0", "x" * 200, "x" * 5000,
        [], (), {}, [0], (0,), {0: 0}, [True, False], {"yes": True}, (None,), (None, None),
        ((),), ([], []), ({}, {}), (("yes",),), ((0, 1),),
        [0] * 3000, (0,) * 3000, (True,) * 3000, ("yes",) * 3000, ("both",) * 66,
        nested("list", 60, 1), nested("tuple", 60, ("yes",)), nested("dict", 60, True),
        nested("tuple", 60, 0), doubled(59), doubled(59, "odd", True), doubled(59, 0, 1),
    ]


def draw_plain(rng, deep=4):
    kind = rng.randrange(9 if deep else 6)
    if kind == 0:
        return rng.choice((None, True, False))
    if kind == 1:
        return rng.randrange(-3, 70)
    if kind == 2:
        return rng.randrange(-FORTY, FORTY + 1)
    if kind == 3:
        return rng.choice(tuple(WORDS))
    if kind < 6:
        return "".join(chr(rng.choice([c for c in range(32, 127) if c != 37])) for _ in range(rng.randrange(9)))
    parts = [draw_plain(rng, deep - 1) for _ in range(rng.randrange(5))]
    if kind == 6:
        return parts
    if kind == 7:
        return tuple(parts)
    return {place: part for place, part in enumerate(parts)}


def draw_table(rng, n):
    return tuple(rng.random() < 0.5 for _ in range(2 ** n))


def all_tables(n):
    return [tuple(number // 2 ** place % 2 == 1 for place in range(2 ** n)) for number in range(2 ** 2 ** n)]


def tables_of(rng, n, many):
    return [(True,) * 2 ** n, (False,) * 2 ** n] + [draw_table(rng, n) for _ in range(many)]


def odd_table(n, subset):
    return tuple(sign_at(subset, place) == -1 for place in range(2 ** n))


def table_with(n, places):
    return tuple(place in places for place in range(2 ** n))


def table_on(rng, n, subset):
    """A table that hangs on switches of the set alone."""
    answers = draw_table(rng, n)
    return tuple(answers[place & subset] for place in range(2 ** n))


def various_tables(rng, n, many=2):
    """Of one answer, odd of switches, with few yes or few no, of some switches alone, and others."""
    sets = [2 ** n - 1] + [rng.randrange(2 ** n) for _ in range(many)]
    few = [rng.sample(range(2 ** n), yeses) for yeses in range(1, min(3, 2 ** n))]
    found = tables_of(rng, n, many) + [odd_table(n, subset) for subset in sets]
    found += [table_with(n, places) for places in few]
    found += [tuple(not answer for answer in table_with(n, places)) for places in few]
    return found + [table_on(rng, n, subset) for subset in sets]


def small_and_various_tables(rng, many):
    """All tables of one to three switches, and various ones of four to six."""
    small = [table for n in (1, 2, 3) for table in all_tables(n)]
    return small + [table for n in (4, 5, 6) for table in various_tables(rng, n, many)]


def hanging(table):
    """The set of the switches that, turned alone, turn the answer somewhere."""
    switches = range(len(table).bit_length() - 1)
    return sum(2 ** switch for switch in switches if any(
        table[place] is not table[place ^ 2 ** switch] for place in range(len(table))
    ))


def sets_with(n, k):
    """The sets of k switches, rising, or the set of all where there are no more than k."""
    return [subset for subset in range(2 ** n) if len(switches_in(subset)) == min(n, k)]


def differing(table, other):
    return sum(answer is not other[place] for place, answer in enumerate(table))


def slow_best(table, subset):
    """The best table of a set, counted setting by setting, and at how many places it differs."""
    yeses, nos = {}, {}
    for place, answer in enumerate(table):
        counted = yeses if answer else nos
        counted[place & subset] = counted.get(place & subset, 0) + 1
    best = tuple(yeses.get(place & subset, 0) > nos.get(place & subset, 0) for place in range(len(table)))
    return (best, differing(table, best))


def slow_nearest(table, k):
    found = None
    for subset in sets_with(len(table).bit_length() - 1, k):
        best = slow_best(table, subset)
        if found is None or best[1] < found[1]:
            found = best
    return found


def as_share(fraction):
    return (Fraction(fraction).numerator, Fraction(fraction).denominator)


def shaking_shares(rng):
    """Shares from 0 to 1: the edges, a half and near it, small ones, and ones with great bottoms."""
    great = [Fraction(rng.randrange(FORTY), FORTY - rng.randrange(10 ** 6)) for _ in range(3)]
    edges = [0, 1, Fraction(1, 2), Fraction(1, FORTY), Fraction(FORTY - 1, FORTY), Fraction(FORTY // 2, FORTY)]
    small = [Fraction(top, bottom) for bottom in (3, 4, 10) for top in (1, bottom - 1)]
    return [as_share(share) for share in edges + small + great]


def shaking_tops(n, share):
    """For each set the share, over the bottom to the n, with which just its switches are turned."""
    tops = []
    for turned in range(2 ** n):
        top = 1
        for switch in range(n):
            top *= share[0] if is_on(turned, switch) else share[1] - share[0]
        tops.append(top)
    return tops


def drawn_names(module):
    """The names that a module draws from others."""
    return [alias.name for node in ast.walk(ast.parse(inspect.getsource(module)))
            if isinstance(node, ast.ImportFrom) for alias in node.names]


def draw_answers(rng, things):
    return tuple(rng.random() < 0.5 for _ in range(things))


def draw_game(rng, things, rows, labels=3):
    """Any game: it may end or not."""
    drawn = tuple(rng.randrange(-1, labels - 1) for _ in range(things))
    return (drawn, tuple(draw_answers(rng, things) for _ in range(rows)))


def draw_ending_game(rng, things, rows, labels=3):
    """A game in which things that answer all alike have one label."""
    drawn = tuple(draw_answers(rng, things) for _ in range(rows))
    by_answers = {pattern: rng.randrange(-1, labels - 1) for pattern in zip(*drawn)}
    return (tuple(by_answers[pattern] for pattern in zip(*drawn)), drawn)


def singled_game(things):
    """Each question singles out one thing, each thing has a label of its own: it needs one ask less than it has."""
    return (tuple(range(things)), tuple(tuple(thing == one for thing in range(things)) for one in range(things)))


def slow_unparted(game):
    """The first two things of unlike labels that answer all alike, or None."""
    for one, other in itertools.combinations(range(len(game[0])), 2):
        if game[0][one] != game[0][other] and all(row[one] is row[other] for row in game[1]):
            return (one, other)
    return None


def sets_of_things(game):
    things = range(len(game[0]))
    return [chosen for many in range(len(things) + 1) for chosen in itertools.combinations(things, many)]


def slow_left(game, things, question, answer):
    return tuple(sorted(set(things) & {thing for thing, said in enumerate(game[1][question]) if said is answer}))


@functools.lru_cache(maxsize=None)
def are_enough(game, things, asks):
    """Whether some way of so many asks, any questions, tells the labels of these things apart."""
    if len({game[0][thing] for thing in things}) <= 1:
        return True
    return asks > 0 and any(
        all(are_enough(game, slow_left(game, things, question, answer), asks - 1) for answer in (True, False))
        for question in range(len(game[1]))
    )


def slow_fewest(game, things):
    return next(asks for asks in itertools.count() if are_enough(game, things, asks))


def slow_first(game, things):
    """The first question by which the fewest asks are enough, or None where there is nothing to ask."""
    asks = slow_fewest(game, things)
    for question in range(len(game[1])) if asks else ():
        if all(are_enough(game, slow_left(game, things, question, answer), asks - 1) for answer in (True, False)):
            return question
    return None


def slow_tree(game, things):
    question = slow_first(game, things)
    if question is None:
        return ("say", game[0][things[0]])
    return ("ask", question) + tuple(slow_tree(game, slow_left(game, things, question, answer))
                                     for answer in (False, True))


def draw_tree(rng, game, deep):
    """Any tree of the game, perhaps with labels that no thing has."""
    if deep == 1 or rng.random() < 0.3:
        return ("say", rng.choice(game[0] + (FORTY, -7)))
    return ("ask", rng.randrange(len(game[1])), draw_tree(rng, game, deep - 1), draw_tree(rng, game, deep - 1))


def sized_tree(asks):
    """A tree of so many asks, as flat as it can be: 2 * asks + 1 trees in all."""
    if asks == 0:
        return ("say", 0)
    return ("ask", 0, sized_tree((asks - 1) // 2), sized_tree(asks - 1 - (asks - 1) // 2))


def long_tree(deep, innermost=("say", 0)):
    """So many trees within one another."""
    tree = innermost
    for step in range(deep - 1):
        tree = ("ask", 0, tree, ("say", 0)) if step % 2 else ("ask", 0, ("say", 0), tree)
    return tree


def doubled_tree(deep):
    """A tree that holds one tree twice, and so on: 2 ** deep - 1 in all, counted as often as they stand."""
    tree = ("say", 0)
    for _ in range(deep - 1):
        tree = ("ask", 0, tree, tree)
    return tree


def draw_formula(rng, n, many, deep):
    """A formula of just so many formulas in all, at most deep within one another."""
    if many == 1:
        return rng.choice([("yes",), ("no",)] + [("at", switch) for switch in range(n)] * 3)
    room = (3 ** (deep - 1) - 1) // 2
    fits = [word for word, parts in WORDS.items() if parts and parts <= many - 1 <= parts * room]
    word = rng.choice(fits)
    sizes = [1] * WORDS[word]
    for _ in range(many - 1 - len(sizes)):
        sizes[rng.choice([part for part, size in enumerate(sizes) if size < room])] += 1
    return (word,) + tuple(draw_formula(rng, n, size, deep - 1) for size in sizes)


def size_of(formula):
    return 1 + sum(size_of(part) for part in formula[1:] if isinstance(part, tuple))


def depth_of(formula):
    return 1 + max([depth_of(part) for part in formula[1:] if isinstance(part, tuple)], default=0)


def is_on(place, switch):
    return place // 2 ** switch % 2 == 1


def switches_in(subset):
    return [switch for switch in range(12) if is_on(subset, switch)]


def sign_at(subset, place):
    return (-1) ** len([switch for switch in switches_in(subset) if is_on(place, switch)])


def value(answer):
    return -1 if answer else 1


def answer_of(formula, place):
    """A formula's answer at a place, by Python's own operators on truths."""
    word = formula[0]
    if word == "yes":
        return True
    if word == "no":
        return False
    if word == "at":
        return is_on(place, formula[1])
    answers = [answer_of(part, place) for part in formula[1:]]
    if word == "not":
        return not answers[0]
    if word == "both":
        return answers[0] and answers[1]
    if word == "either":
        return answers[0] or answers[1]
    if word == "odd":
        return answers[0] ^ answers[1]
    return sorted(answers)[1]


def fraction_at(total, place):
    return Fraction(sum(weight * SIGNS[subset][place] for subset, weight in total[1]), 2 ** total[0])


@functools.lru_cache(maxsize=None)
def slow_sum(table):
    n = {2: 1, 4: 2, 8: 3, 16: 4, 32: 5, 64: 6}[len(table)]
    weights = [
        sum(value(answer) * SIGNS[subset][place] for place, answer in enumerate(table))
        for subset in range(2 ** n)
    ]
    return (n, tuple((subset, weight) for subset, weight in enumerate(weights) if weight))


def sum_with(n, weights):
    return (n, tuple((subset, weight) for subset, weight in sorted(weights.items()) if weight))


def draw_sum(rng, n):
    """Any sum: weights small, heavy, or such as tables have."""
    sets = rng.sample(range(2 ** n), rng.randrange(2 ** n + 1))
    span = rng.choice((1, 2 ** n, 100, 10 ** 12))
    return sum_with(n, {subset: rng.randrange(-span, span + 1) for subset in sets})


def spoiled_sums(rng, total):
    """A table's sum with one weight turned, two exchanged, all halved or doubled, one left out, one put in."""
    n, weights = total[0], dict(total[1])
    one, other = rng.choice(list(weights)), rng.choice(list(weights))
    lacking = [subset for subset in range(2 ** n) if subset not in weights]
    found = [
        {**weights, one: -weights[one]},
        {**weights, one: weights[other], other: weights[one]},
        {subset: weight // 2 for subset, weight in weights.items()},
        {subset: weight * 2 for subset, weight in weights.items()},
        {**weights, one: 0},
        {**weights, one: weights[one] + rng.choice((-2, -1, 1, 2))},
        {subset: rng.choice((weight, -weight)) for subset, weight in weights.items()},
        {subset ^ one: weight for subset, weight in weights.items()},
    ]
    if lacking:
        found.append({**weights, rng.choice(lacking): rng.choice(list(weights.values()))})
        found.append({**{subset: weight for subset, weight in weights.items() if subset != one},
                      rng.choice(lacking): weights[one]})
    return [sum_with(n, each) for each in found]


SIGNS = [[sign_at(subset, place) for place in range(64)] for subset in range(64)]
