import re
import unittest
from fractions import Fraction

from flips.desk import Desk
from flips.errors import Alike, FlipError, NoName, NoRow, NoThing
from tests.helper import WORDS, answer_of, dice, depth_of, draw_formula, frozen, shaking_tops, size_of, slow_fewest, \
    slow_first, slow_left, slow_nearest, slow_sum

NAME = "[a-z]{1,8}"
NUMBER = "(?:0|[1-9][0-9]{0,8})"
FORMS = (
    f"(keep) ({NAME}) (.+)", f"(drop) ({NAME})", "(names)", f"(table) ({NAME})", f"(sum) ({NAME})",
    f"(matters) ({NAME}) ({NUMBER})", f"(stays) ({NAME}) ({NUMBER}) ({NUMBER})", f"(nearest) ({NAME}) ([0-4])",
    f"(fewest) ({NAME})", f"(find) ({NAME}(?: {NAME}){{1,9}})", "(ask)", f"(answer) ({NUMBER}) (yes|no)", "(left)",
)


def written(formula):
    parts = [str(part) if isinstance(part, int) else written(part) for part in formula[1:]]
    return " ".join([formula[0]] + parts)


def slow_read(n, text):
    """A formula of the text, or None."""
    words = text.split(" ")

    def taken():
        word = words.pop(0)
        if word == "at":
            return ("at", [str(switch) for switch in range(n)].index(words.pop(0)))
        return (word,) + tuple(taken() for _ in range(WORDS[word]))

    try:
        formula = taken()
    except (IndexError, KeyError, ValueError):
        return None
    return formula if not words and size_of(formula) <= 20 and depth_of(formula) <= 8 else None


def signs(table):
    return "".join(str(int(answer)) for answer in table)


def share_text(fraction):
    return f"{Fraction(fraction).numerator}/{Fraction(fraction).denominator}"


def staying(table, share):
    n = len(table).bit_length() - 1
    kept = sum(top for turned, top in enumerate(shaking_tops(n, share)) for place in range(2 ** n)
               if table[place] is table[place ^ turned])
    return Fraction(kept, 2 ** n * share[1] ** n)


class SlowDesk:
    """A desk reckoned plainly; what is refused is told as a tuple of the refusal's class and its fields."""

    def __init__(self, n):
        self.n, self.tables, self.class_game, self.sought, self.things = n, {}, None, None, None

    def parts(self, row):
        for form in FORMS:
            found = re.fullmatch(form, row)
            if found:
                return found.groups()
        return None

    def is_row(self, parts):
        if parts is None or (parts[0] in ("ask", "answer", "left") and self.things is None):
            return False
        if parts[0] == "keep":
            return slow_read(self.n, parts[2]) is not None
        if parts[0] in ("matters", "answer"):
            return int(parts[2 if parts[0] == "matters" else 1]) < 2 ** self.n
        return parts[0] != "stays" or 1 <= int(parts[3]) >= int(parts[2])

    def say(self, row):
        parts = self.parts(row)
        if not self.is_row(parts):
            return (NoRow, row)
        word = parts[0]
        if word == "keep":
            formula = slow_read(self.n, parts[2])
            self.tables[parts[1]] = tuple(answer_of(formula, place) for place in range(2 ** self.n))
            return "ok"
        for name in parts[1].split(" ") if word not in ("names", "ask", "answer", "left") else ():
            if name not in self.tables:
                return (NoName, name)
        if word == "find":
            return self.find(parts[1].split(" "))
        if word in ("ask", "answer", "left"):
            return self.go_on(word, parts)
        if word == "names":
            return " ".join(sorted(self.tables)) or "-"
        if word == "drop":
            del self.tables[parts[1]]
            return "ok"
        return self.told(word, self.tables[parts[1]], [int(part) for part in parts[2:]])

    def told(self, word, table, numbers):
        if word == "table":
            return signs(table)
        if word == "sum":
            return " ".join(f"{subset}:{weight}" for subset, weight in slow_sum(table)[1])
        if word == "matters":
            turned = sum(table[place] is not table[place ^ numbers[0]] for place in range(len(table)))
            return share_text(Fraction(turned, len(table)))
        if word == "stays":
            return share_text(staying(table, numbers))
        if word == "nearest":
            near, differences = slow_nearest(table, numbers[0])
            return f"{signs(near)} {differences}"
        rows = tuple(tuple(place // 2 ** switch % 2 == 1 for place in range(len(table))) for switch in range(self.n))
        return str(slow_fewest((tuple(map(int, table)), rows), tuple(range(len(table)))))

    def find(self, names):
        tables = [self.tables[name] for name in names]
        for other, table in enumerate(tables):
            if table in tables[:other]:
                return (Alike, tables.index(table), other)
        self.class_game = (tuple(range(len(names))), tuple(zip(*tables)))
        self.sought, self.things = names, tuple(range(len(names)))
        return "ok"

    def go_on(self, word, parts):
        if word == "left":
            return " ".join(self.sought[thing] for thing in self.things)
        if word == "ask":
            question = slow_first(self.class_game, self.things)
            return f"found {self.sought[self.things[0]]}" if question is None else f"ask {question}"
        left = slow_left(self.class_game, self.things, int(parts[1]), parts[2] == "yes")
        if not left:
            return (NoThing, int(parts[1]))
        self.things = left
        return "ok"


def heard(desk, row):
    """What a desk answers, a refusal as a tuple of its class and its fields."""
    try:
        return desk.say(row)
    except NoRow as refusal:
        return (NoRow, refusal.row)
    except NoName as refusal:
        return (NoName, refusal.name)
    except NoThing as refusal:
        return (NoThing, refusal.question)
    except Alike as refusal:
        return (Alike, refusal.one, refusal.other)


class DeskCase(unittest.TestCase):
    def told(self, desk, row, answer):
        self.assertEqual(frozen(heard(desk, row)), frozen(answer), row)

    def no_row(self, desk, row):
        self.told(desk, row, (NoRow, row))

    def desk_with(self, n, **texts):
        desk = Desk(n)
        for name, text in texts.items():
            self.told(desk, f"keep {name} {text}", "ok")
        return desk


class Rows(DeskCase):
    def test_keep_names_and_drop(self):
        desk = Desk(2)
        self.told(desk, "names", "-")
        self.told(desk, "keep b at 0", "ok")
        self.told(desk, "names", "b")
        self.told(desk, "keep ab both at 0 at 1", "ok")
        self.told(desk, "keep a no", "ok")
        self.told(desk, "keep keep yes", "ok")
        self.told(desk, "keep zzzzzzzz yes", "ok")
        self.told(desk, "names", "a ab b keep zzzzzzzz")
        self.told(desk, "drop a", "ok")
        self.told(desk, "names", "ab b keep zzzzzzzz")
        self.told(desk, "drop a", (NoName, "a"))
        self.told(desk, "table b", "0101")
        self.told(desk, "keep b not at 0", "ok")
        self.told(desk, "table b", "1010")
        self.told(desk, "names", "ab b keep zzzzzzzz")
        for name in ("ab", "b", "keep", "zzzzzzzz"):
            self.told(desk, "drop " + name, "ok")
        self.told(desk, "names", "-")

    def test_table_and_sum(self):
        desk = self.desk_with(2, both="both at 0 at 1", yes="yes", odd="odd at 0 at 1")
        self.told(desk, "table both", "0001")
        self.told(desk, "sum both", "0:2 1:2 2:2 3:-2")
        self.told(desk, "table yes", "1111")
        self.told(desk, "sum yes", "0:-4")
        self.told(desk, "sum odd", "3:4")
        desk = self.desk_with(4, most="most at 3 at 2 at 0")
        self.told(desk, "table most", "0000010101011111")

    def test_matters_and_stays(self):
        desk = self.desk_with(2, both="both at 0 at 1", odd="odd at 0 at 1")
        self.told(desk, "matters both 0", "0/1")
        self.told(desk, "matters both 1", "1/2")
        self.told(desk, "matters both 3", "1/2")
        self.told(desk, "matters odd 1", "1/1")
        self.told(desk, "matters odd 3", "0/1")
        self.told(desk, "stays both 1 4", "25/32")
        self.told(desk, "stays both 2 8", "25/32")
        self.told(desk, "stays both 250000000 1000000", (NoRow, "stays both 250000000 1000000"))
        self.told(desk, "stays both 2 4", "5/8")
        self.told(desk, "stays both 0 1", "1/1")
        self.told(desk, "stays both 0 999999999", "1/1")
        self.told(desk, "stays odd 7 7", "1/1")
        self.told(desk, "stays odd 1 2", "1/2")
        self.told(desk, "stays odd 999999999 999999999", "1/1")
        self.told(desk, "stays odd 1 999999999", share_text(staying((False, True, True, False), (1, 999999999))))

    def test_nearest_and_fewest(self):
        desk = self.desk_with(2, both="both at 0 at 1", odd="odd at 0 at 1", no="no")
        self.told(desk, "nearest both 0", "0000 1")
        self.told(desk, "nearest both 1", "0000 1")
        self.told(desk, "nearest both 2", "0001 0")
        self.told(desk, "nearest both 4", "0001 0")
        self.told(desk, "nearest odd 1", "0000 2")
        self.told(desk, "fewest both", "2")
        self.told(desk, "fewest no", "0")
        desk = self.desk_with(4, odd="odd odd at 0 at 1 odd at 2 at 3", at="at 3")
        self.told(desk, "fewest odd", "4")
        self.told(desk, "fewest at", "1")
        self.told(desk, "nearest odd 3", "0" * 16 + " 8")

    def test_an_asking(self):
        desk = self.desk_with(2, a="at 0", b="at 1", c="yes", d="no")
        self.told(desk, "find d a c b", "ok")
        self.told(desk, "left", "d a c b")
        self.told(desk, "ask", "ask 1")
        self.told(desk, "answer 1 yes", "ok")
        self.told(desk, "left", "a c")
        self.told(desk, "ask", "ask 0")
        self.told(desk, "answer 0 no", "ok")
        self.told(desk, "ask", "found a")
        self.told(desk, "left", "a")
        self.told(desk, "answer 0 no", "ok")
        self.told(desk, "answer 2 yes", (NoThing, 2))
        self.told(desk, "answer 3 no", (NoThing, 3))
        self.told(desk, "ask", "found a")
        self.told(desk, "answer 3 yes", "ok")
        self.told(desk, "left", "a")

    def test_answers_in_any_order(self):
        desk = self.desk_with(2, a="at 0", b="at 1", c="yes", d="no")
        self.told(desk, "find d a c b", "ok")
        self.told(desk, "answer 3 yes", "ok")
        self.told(desk, "left", "a c b")
        self.told(desk, "answer 2 yes", "ok")
        self.told(desk, "left", "c b")
        self.told(desk, "answer 3 no", (NoThing, 3))
        self.told(desk, "left", "c b")
        self.told(desk, "ask", "ask 0")
        self.told(desk, "answer 0 no", "ok")
        self.told(desk, "ask", "found b")

    def test_two_and_ten_names(self):
        texts = ["yes", "no", "at 0", "at 1", "not at 0", "not at 1", "odd at 0 at 1", "not odd at 0 at 1",
                 "both at 0 at 1", "either at 0 at 1", "both at 0 not at 1"]
        names = list("abcdefghijk")
        desk = self.desk_with(2, **dict(zip(names, texts)))
        for many in range(2, 11):
            self.told(desk, "find " + " ".join(names[:many]), "ok")
            self.told(desk, "left", " ".join(names[:many]))
        self.no_row(desk, "find " + " ".join(names))
        self.no_row(desk, "find a")
        self.no_row(desk, "find")
        self.told(desk, "left", " ".join(names[:10]))

    def test_numbers_of_one_switch_desks(self):
        desk = self.desk_with(1, a="at 0", b="no")
        self.told(desk, "matters a 1", "1/1")
        self.no_row(desk, "matters a 2")
        self.told(desk, "nearest a 4", "01 0")
        self.told(desk, "find a b", "ok")
        self.told(desk, "ask", "ask 1")
        self.no_row(desk, "answer 2 yes")


class Refused(DeskCase):
    def setUp(self):
        self.desk = self.desk_with(2, a="at 0", b="at 1", c="at 0")

    def stands(self, begun=False):
        self.told(self.desk, "names", "a b c")
        self.told(self.desk, "table a", "0101")
        self.told(self.desk, "table b", "0011")
        if begun:
            self.told(self.desk, "left", "a b")
            self.told(self.desk, "ask", "ask 1")

    def rows_that_are_none(self):
        words = ["", " ", "  ", "nothing", "Names", "NAMES", "name", "keeps a yes", "yes", "a", "0", "-", "ok", "~",
                 "most a", "label", "asks", "find", "keep", "keep ", "\tnames", "names\n", "names\t"]
        lacking = ["drop", "table", "sum", "matters", "matters a", "stays", "stays a", "stays a 1", "nearest",
                   "nearest a", "fewest", "find a", "answer", "answer 1", "answer yes", "keep a", "keep yes"]
        many = ["names a", "drop a b", "table a b", "sum a b", "matters a 1 1", "stays a 1 2 3", "nearest a 1 1",
                "fewest a b", "ask 1", "ask a", "left a", "answer 1 yes no", "answer 1 yes yes", "keep a yes yes",
                "keep a at 0 0", "find a b a b a b a b a b a"]
        blanks = [" names", "names ", "drop  a", "drop a ", " drop a", "matters a  1", "matters a 1 ", "stays a 1  2",
                  "find a  b", "find a b ", " find a b", "find  a b", "ask ", " ask", "left ", " left", "answer  1 yes",
                  "answer 1  yes", "answer 1 yes ", "keep  a yes", "keep a  yes", "keep a yes ", " keep a yes",
                  "keep a both yes  no", "table a ", "sum  a", "fewest a ", "nearest a 1 "]
        return words + lacking + many + blanks

    def rows_with_bad_words(self):
        names = ["", "A", "aB", "a1", "1", "a-b", "a_b", "abcdefghi", "-", "a.", "a\n", "\u00e9", "\u00df", "a~"]
        numbers = ["", "00", "01", "007", "-1", "+1", "1.0", "1/2", "0x1", "a", "1a", "1234567890", "1000000000",
                   "0000000000", "1_0", "\u00b2", "\u0661", "1\n", "True", "-0"]
        found = []
        for name in names:
            found += [f"keep {name} yes", f"drop {name}", f"table {name}", f"sum {name}", f"matters {name} 1",
                      f"stays {name} 1 2", f"nearest {name} 1", f"fewest {name}", f"find {name} a", f"find a {name}",
                      f"find a b {name}"]
        for number in numbers:
            found += [f"matters a {number}", f"stays a {number} 2", f"stays a 0 {number}", f"nearest a {number}",
                      f"answer {number} yes", f"answer {number} no"]
        found += ["stays a 1 0", "stays a 0 0", "stays a 3 2", "stays a 2 1", "stays a 999999999 999999998",
                  "stays a 999999999 1", "matters a 4", "matters a 5", "matters a 63", "matters a 999999999",
                  "nearest a 5", "nearest a 6", "nearest a 10", "nearest a 999999999", "answer 4 yes", "answer 4 no",
                  "answer 999999999 yes", "answer 1 Yes", "answer 1 y", "answer 1 true", "answer 1 1", "answer 1 0",
                  "answer yes 1", "answer a yes", "answer 1 yesno"]
        return found

    def texts_that_read_refuses(self):
        deep = "not " * 8 + "yes"
        large = "both " * 7 + "yes " * 7 + "yes"
        return ["", "at", "at 2", "at 9", "at -1", "at 00", "at a", "Yes", "yes no", "both yes", "both yes yes yes",
                "most yes yes", "not", deep, "or yes no", "both yes  yes", "no ", "odd at 0", "either",
                "most " + "most yes yes yes " * 2 + "most yes yes most yes most yes yes yes most yes yes yes",
                "both " + large + " " + large]

    def test_no_row_ahead_of_any_find(self):
        for row in self.rows_that_are_none() + self.rows_with_bad_words():
            self.no_row(self.desk, row)
        for text in self.texts_that_read_refuses():
            self.no_row(self.desk, "keep a " + text)
            self.no_row(self.desk, "keep d " + text)
        self.stands()

    def test_no_row_while_an_asking_goes_on(self):
        self.told(self.desk, "find a b", "ok")
        for row in self.rows_that_are_none() + self.rows_with_bad_words():
            self.no_row(self.desk, row)
        for text in self.texts_that_read_refuses():
            self.no_row(self.desk, "keep a " + text)
        self.stands(begun=True)

    def test_the_edges_that_are_rows(self):
        for text in ("not " * 7 + "yes", "both " * 6 + "yes " * 6 + "yes", "yes"):
            self.told(self.desk, "keep e " + text, "ok")
        self.told(self.desk, "drop e", "ok")
        for row in ("matters a 3", "matters a 0", "stays a 999999999 999999999", "stays a 0 1", "nearest a 4",
                    "nearest a 0"):
            self.assertIsInstance(heard(self.desk, row), str)
        self.told(self.desk, "keep abcdefgh yes", "ok")
        self.told(self.desk, "drop abcdefgh", "ok")
        self.stands()

    def test_ask_answer_and_left_ahead_of_any_find(self):
        for row in ("ask", "left", "answer 0 yes", "answer 3 no"):
            self.no_row(self.desk, row)
        self.told(self.desk, "find a c", (Alike, 0, 1))
        self.told(self.desk, "find a z", (NoName, "z"))
        for row in ("ask", "left", "answer 0 yes", "answer 3 no"):
            self.no_row(self.desk, row)
        self.told(self.desk, "find a b", "ok")
        self.told(self.desk, "left", "a b")

    def test_no_row_ahead_of_no_name(self):
        for row in ("matters z 4", "matters z", "matters z 01", "stays z 3 2", "stays z 0 0", "stays z 1",
                    "nearest z 5", "find z", "find z z z z z z z z z z z", "find z A", "table z z", "drop z ",
                    "fewest z 1", "sum  z"):
            self.no_row(self.desk, row)
        self.stands()

    def test_no_name(self):
        for row in ("drop z", "table z", "sum z", "matters z 3", "stays z 1 2", "nearest z 4", "fewest z"):
            self.told(self.desk, row, (NoName, "z"))
        self.told(self.desk, "find a z y", (NoName, "z"))
        self.told(self.desk, "find y a z", (NoName, "y"))
        self.told(self.desk, "find z z", (NoName, "z"))
        # The lacking name stands ahead of the alike tables, wherever it is.
        self.told(self.desk, "find a c z", (NoName, "z"))
        self.told(self.desk, "find a a z", (NoName, "z"))
        self.stands()

    def test_alike(self):
        self.told(self.desk, "find a c", (Alike, 0, 1))
        self.told(self.desk, "find a a", (Alike, 0, 1))
        self.told(self.desk, "find b a c", (Alike, 1, 2))
        self.told(self.desk, "find a b b c", (Alike, 1, 2))
        self.told(self.desk, "find a b c b", (Alike, 0, 2))
        self.stands()

    def test_a_find_that_is_refused_leaves_the_asking_that_was(self):
        self.told(self.desk, "find a b", "ok")
        for row, refusal in (("find a c", (Alike, 0, 1)), ("find b z", (NoName, "z")), ("find b", (NoRow, "find b")),
                             ("find b  a", (NoRow, "find b  a"))):
            self.told(self.desk, row, refusal)
            self.stands(begun=True)
        self.told(self.desk, "answer 1 yes", "ok")
        self.told(self.desk, "find b c c", (Alike, 1, 2))
        self.told(self.desk, "ask", "found a")

    def test_each_refusal_is_one_of_the_base(self):
        for row in ("nothing", "table z", "find a c"):
            with self.assertRaises(FlipError):
                self.desk.say(row)


class KeptAnew(DeskCase):
    def test_while_an_asking_goes_on(self):
        desk = self.desk_with(2, a="at 0", b="at 1", c="yes")
        self.told(desk, "find a b c", "ok")
        self.told(desk, "keep a no", "ok")
        self.told(desk, "drop b", "ok")
        self.told(desk, "keep d at 0", "ok")
        self.told(desk, "left", "a b c")
        self.told(desk, "answer 2 no", "ok")
        self.told(desk, "left", "a")
        self.told(desk, "ask", "found a")
        self.told(desk, "table a", "0000")
        self.told(desk, "find a b", (NoName, "b"))
        self.told(desk, "ask", "found a")
        self.told(desk, "find d c", "ok")
        self.told(desk, "ask", "ask 0")
        self.told(desk, "drop d", "ok")
        self.told(desk, "answer 0 no", "ok")
        self.told(desk, "ask", "found d")

    def test_a_new_find_begins_anew(self):
        desk = self.desk_with(2, a="at 0", b="at 1")
        self.told(desk, "find a b", "ok")
        self.told(desk, "answer 1 yes", "ok")
        self.told(desk, "left", "a")
        self.told(desk, "find b a", "ok")
        self.told(desk, "left", "b a")

    def test_two_desks_have_nothing_in_common(self):
        one, other = self.desk_with(2, a="at 0", b="at 1"), Desk(2)
        self.told(other, "names", "-")
        self.told(one, "find a b", "ok")
        self.no_row(other, "ask")
        self.told(other, "keep a yes", "ok")
        self.told(one, "table a", "0101")
        self.told(other, "keep b no", "ok")
        self.told(other, "find b a", "ok")
        self.told(other, "answer 0 yes", "ok")
        self.told(other, "ask", "found a")
        self.told(one, "left", "a b")
        self.told(one, "drop a", "ok")
        self.told(other, "names", "a b")


class Drawn(DeskCase):
    """Many rows, one behind the other, against a desk reckoned plainly."""

    def draw_name(self, rng):
        return rng.choice(("a", "b", "c", "d", "e", "find", "abcdefgh"))

    def draw_row(self, rng, n):
        name, number = self.draw_name(rng), str(rng.randrange(2 ** n + 1))
        many = rng.choice((1, 2, 2, 3, 3, 4, 4, 5))
        deep = rng.choice((4, 4, 4, 8))
        return rng.choice((
            f"keep {name} {written(draw_formula(rng, n, rng.randrange(1, 9), deep))}",
            f"keep {name} {written(draw_formula(rng, rng.randrange(1, 6), rng.randrange(1, 4), 4))}",
            f"drop {name}" if rng.random() < 0.4 else "names", f"table {name}", f"sum {name}",
            f"matters {name} {number}", f"stays {name} {rng.randrange(5)} {rng.randrange(9)}",
            f"nearest {name} {rng.randrange(6)}", f"fewest {name}",
            "find " + " ".join(self.draw_name(rng) for _ in range(many)),
            "ask", f"answer {number} yes", f"answer {number} no", "left",
        ))

    def bend(self, rng, row):
        spot = rng.randrange(len(row) + 1)
        return rng.choice((row[:spot] + rng.choice(" a01Z") + row[spot:], row[:spot] + row[spot + 1:]))

    def test_many_rows(self):
        rng = dice("many rows")
        seen = {}
        for n in (1, 2, 3, 4):
            for _ in range(12):
                desk, slow = Desk(n), SlowDesk(n)
                for _ in range(150):
                    row = self.draw_row(rng, n)
                    row = self.bend(rng, row) if rng.random() < 0.15 else row
                    expected = slow.say(row)
                    self.told(desk, row, expected)
                    kind = expected[0] if isinstance(expected, tuple) else row.split(" ")[0]
                    seen[kind] = seen.get(kind, 0) + 1
        self.assertEqual(len(seen), 17)
        self.assertGreater(min(seen.values()), 20)


if __name__ == "__main__":
    unittest.main()
