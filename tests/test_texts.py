"""[49], [50]: the texts of worlds, rows and diaries."""

import random
import re
import unittest

from neverowing.errors import BadDiary, BadRow, BadText, BadWorld
from neverowing.texts import diary_text, read_diary, read_row, read_world, row_text, world_text
from neverowing.worlds import World
from tests.helpers import (error_of, example, is_right_name, kept, loop_world, odd_values, picture, random_world)
from tests.test_ahead import row_fault
from tests.test_diaries import diary_fault, is_item

EXAMPLE_TEXT = "0: go=0/2,1/0\n1: >0 go=0/3\nstart 0"
NUMBER = "(0|[1-9][0-9]*)"
ANSWER = NUMBER + "/" + NUMBER
LINE = f"{NUMBER}:( >{NUMBER})*( [a-z]+={ANSWER}(,{ANSWER})*)*"
WORLD = f"({LINE}\n)*start {NUMBER}"


def plain_world_text(world):
    lines = []
    for standing in range(world.size):
        line = str(standing) + ":"
        for goal in world.turns[standing]:
            line += " >" + str(goal)
        for name, answers in world.asks[standing]:
            line += " " + name + "=" + ",".join(str(goal) + "/" + str(price) for goal, price in answers)
        lines.append(line + "\n")
    return "".join(lines) + "start " + str(world.start)


def plain_world(text):
    """The world of a text, None if it is none's; read by patterns."""
    if not re.fullmatch(WORLD, text):
        return None
    *lines, last = text.split("\n")
    turns, asks = [], []
    for number, line in enumerate(lines):
        if line.partition(":")[0] != str(number):
            return None
        turns.append(tuple(int(told) for told in re.findall(" >([0-9]+)", line)))
        asks.append(tuple((name, tuple((int(goal), int(price)) for goal, price in re.findall("([0-9]+)/([0-9]+)", told)))
                          for name, told in re.findall(" ([a-z]+)=([0-9/,]+)", line)))
    try:
        return World(tuple(turns), tuple(asks), start=int(last[6:]))
    except BadWorld:
        return None


def plain_row(text):
    if text == "-":
        return []
    row = re.split(" ", text)
    return row if all(map(is_right_name, row)) and len(row) <= 60 else None


def plain_diary(text):
    if text == "-":
        return []
    if not re.fullmatch(r"([a-z]{1,12}|\?):(\?|%s)( ([a-z]{1,12}|\?):(\?|%s))*" % (NUMBER, NUMBER), text):
        return None
    items = [word.split(":") for word in text.split(" ")]
    diary = [(None if name == "?" else name, None if price == "?" else int(price)) for name, price in items]
    return diary if len(diary) <= 40 else None


def nearly(text, signs):
    """All texts that differ from this one by one sign, left out, twice, another, or one more."""
    for at in range(len(text) + 1):
        for sign in signs:
            yield text[:at] + sign + text[at:]
        if at < len(text):
            yield text[:at] + text[at + 1:]
            yield text[:at] + text[at] + text[at:]
            for sign in signs:
                yield text[:at] + sign + text[at + 1:]


def random_row(dice):
    return ["".join(dice.choice("abz") for _ in range(dice.randint(1, 12))) for _ in range(dice.randint(0, 6))]


def random_items(dice, most=5):
    return [(dice.choice([None, "go", "stay", "a" * 12]), dice.choice([None, 0, 7, 10, 10 ** 20]))
            for _ in range(dice.randint(0, most))]


class TextTest(unittest.TestCase):
    def test_example(self):
        self.assertEqual([world_text(example()), diary_text([("go", None), (None, 12)]), read_row("go stay")],
                         [EXAMPLE_TEXT, "go:? ?:12", ["go", "stay"]])

    def test_worlds(self):
        for seed in range(300):
            world = random_world(seed)
            if seed % 3 == 0:
                world = world.scaled(10 ** (seed // 3))
            text = plain_world_text(world)
            self.assertEqual(kept(world_text, world), text)
            told = read_world(text)
            self.assertEqual(picture(told), picture(world))
            self.assertIs(type(told), World)

    def test_a_standing_without_turns_and_asks(self):
        w = World(((2,), (0, 2), ()), ((), (), (("a", ((2, 0),)), ("b", ((0, 1), (1, 10 ** 30), (2, 5))))), start=2)
        text = "0: >2\n1: >0 >2\n2: a=2/0 b=0/1,1/" + "1" + "0" * 30 + ",2/5\nstart 2"
        self.assertEqual([world_text(w), read_world(text)], [text, w])

    def test_great_worlds(self):
        for many in (1, 10, 11, 400):
            world = loop_world(*range(many))
            text = world_text(world)
            self.assertEqual(text.count("\n"), many)
            self.assertEqual(read_world(text), world)
            self.assertEqual(text, plain_world_text(world))
        full = World(((),) * 400, ((("a", tuple((k, k) for k in range(400))),),) * 400, start=399)
        self.assertEqual(read_world(world_text(full)), full)

    def test_great_numbers(self):
        for digits in (1, 30, 999, 1000):
            price = 10 ** digits - 1
            world = World(((),), ((("a", ((0, price),)),),))
            self.assertEqual(world_text(world), "0: a=0/" + "9" * digits + "\nstart 0")
            self.assertEqual(read_world(world_text(world)), world)
            self.assertEqual(read_diary(diary_text([("a", price)])), [("a", price)])
            self.assertEqual(diary_text([(None, price)]), "?:" + "9" * digits)

    def test_nearly_right_texts_of_worlds(self):
        texts = [EXAMPLE_TEXT] + [plain_world_text(random_world(seed)) for seed in (3, 8, 10)]
        texts.append("0: >1 >2 a=0/1,1/10 go=1/0\n1: >0\n2: >1\nstart 2")
        seen = set()
        for text in texts:
            if len(text) > 250:
                continue
            for other in nearly(text, "019 :>=/,-+_a\n"):
                wanted = plain_world(other)
                if wanted is None:
                    self.assertEqual(error_of(read_world, other), (BadText, other))
                else:
                    self.assertEqual(picture(read_world(other)), picture(wanted))
                    self.assertEqual(world_text(wanted), other)
                seen.add(wanted is None)
        self.assertEqual(seen, {True, False})

    def test_lines_of_worlds(self):
        lines = EXAMPLE_TEXT.split("\n")
        for at in range(3):
            for other in (lines[:at] + lines[at + 1:], lines[:at] + lines[at:at + 1] + lines[at:],
                          lines[:at] + [""] + lines[at:], lines[:at] + [lines[at] + " "] + lines[at + 1:],
                          lines[:at] + [" " + lines[at]] + lines[at + 1:], lines[:at] + [""] + lines[at + 1:]):
                text = "\n".join(other)
                self.assertEqual(error_of(read_world, text), (BadText, text))
        for text in ("\n".join(lines[::-1]), "\n".join([lines[1], lines[0], lines[2]]), EXAMPLE_TEXT + "\n",
                     "\n" + EXAMPLE_TEXT, EXAMPLE_TEXT.replace("\n", "\r\n"), EXAMPLE_TEXT.replace("\n", " "), "",
                     "\n", "start 0", "0:\nstart 0", "start", "start ", "-", "0: a=0/0", "0: a=0/0\nstart"):
            self.assertEqual(error_of(read_world, text), (BadText, text))

    def test_worlds_that_are_none(self):
        for text in ("0: a=0/0\nstart 1", "0: a=1/0\nstart 0", "0: >0 a=0/0\nstart 0", "0: >1 a=0/0\nstart 0",
                     "0: a=0/0\n1:\nstart 0", "0: a=0/0 a=0/0\nstart 0", "0: b=0/0 a=0/0\nstart 0",
                     "0: a=0/0,0/1\nstart 0", "0: a=1/0,0/0\n1: >0\nstart 0", "0: a=\nstart 0", "0: a\nstart 0",
                     "0: =0/0\nstart 0", "0: " + "a" * 13 + "=0/0\nstart 0", "0: a=0/0 >1\n1: a=0/0\nstart 0",
                     "0: >2 >1\n1: a=0/0\n2: a=0/0\nstart 0", "0: >1 >1\n1: a=0/0\nstart 0",
                     "0: a=0/-1\nstart 0", "0: a=0/+1\nstart 0", "0: a=0/01\nstart 0", "0: a=00/1\nstart 0",
                     "0: a=0/1_0\nstart 0", "0: a=0/1.0\nstart 0", "0: a=0/ 1\nstart 0", "00: a=0/1\nstart 0",
                     "0: a=0/1\nstart 00", "0: a=0/1\nstart -0", "0: a=0/1\nStart 0", "0: A=0/1\nstart 0",
                     "0: a=0/0x1\nstart 0", "0: a=x/1\nstart 0", "0: a=0/\u0661\nstart 0", "0: a=0/\u00b2\nstart 0", "\u0660: a=0/1\nstart 0",
                     "0: a=0/1\nstart \u0660", "0: a=0/1/2\nstart 0", "0: a=0\nstart 0", "0: a=0/1,\nstart 0"):
            self.assertEqual(error_of(read_world, text), (BadText, text), text)
        right = "0: a=0/1\nstart 0"
        self.assertIsNone(error_of(read_world, right))

    def test_too_many_standings_and_asks(self):
        def text(standings, asks):
            names = sorted("".join(chr(97 + k // 26 ** at % 26) for at in (1, 0)) for k in range(asks))
            row = "".join(" " + name + "=0/0" for name in names)
            return "".join(f"{k}:{row}\n" for k in range(standings)) + "start 0"

        for standings, asks, right in ((400, 1, True), (401, 1, False), (1, 160, True), (1, 161, False), (0, 1, False)):
            told = text(standings, asks)
            self.assertEqual(error_of(read_world, told), None if right else (BadText, told))

    def test_rows(self):
        self.assertEqual([row_text([]), row_text(["go"]), row_text(["go", "stay", "go"])], ["-", "go", "go stay go"])
        for seed in range(100):
            row = random_row(random.Random(seed))
            text = kept(row_text, row)
            self.assertEqual(text, " ".join(row) if row else "-")
            self.assertEqual(kept(read_row, text), row)
            for other in nearly(text, " -a?\n:0"):
                wanted = plain_row(other)
                if wanted is None:
                    self.assertEqual(error_of(read_row, other), (BadText, other))
                else:
                    self.assertEqual(read_row(other), wanted)

    def test_long_rows(self):
        for many in (59, 60, 61, 100):
            text = " ".join(["go"] * many)
            self.assertEqual(error_of(row_text, ["go"] * many), None if many <= 60 else (BadRow, -1))
            self.assertEqual(error_of(read_row, text), None if many <= 60 else (BadText, text))
        self.assertEqual(read_row(" ".join(["a" * 12] * 60)), ["a" * 12] * 60)

    def test_diaries(self):
        self.assertEqual([diary_text([]), diary_text([(None, None)]), diary_text([("go", 0), ("stay", None)])],
                         ["-", "?:?", "go:0 stay:?"])
        for seed in range(60):
            diary = random_items(random.Random(seed), 3)
            text = kept(diary_text, diary)
            told = kept(read_diary, text)
            self.assertEqual(picture(told), picture(diary))
            for other in nearly(text, " -a?\n:01+"):
                wanted = plain_diary(other)
                if wanted is None:
                    self.assertEqual(error_of(read_diary, other), (BadText, other))
                else:
                    self.assertEqual(picture(read_diary(other)), picture(wanted))

    def test_long_diaries(self):
        for many in (39, 40, 41, 100):
            text = " ".join(["go:1"] * many)
            self.assertEqual(error_of(diary_text, [("go", 1)] * many), None if many <= 40 else (BadDiary, -1))
            self.assertEqual(error_of(read_diary, text), None if many <= 40 else (BadText, text))

    def test_texts_of_none(self):
        for text in ("", " ", "\n", "--", "- -", " -", "- ", "go  go", " go", "go ", "go\n", "go\tgo", "\u00e4", "go -",
                     "- go", "a" * 13, "G"):
            self.assertEqual(error_of(read_row, text), (BadText, text))
        for text in ("", " ", "\n", "--", "- -", "go", "go:", ":1", ":", "go:1:2", "go:01", "go:-1", "go:+1", "go:1 ",
                     " go:1", "go:1  go:1", "go:1\n", "go:\u0661", "go:\u00b2", "??:1", "?:??", "None:1", "go:None",
                     "Go:1", "a" * 13 + ":1", "go:1 -", "go : 1", "go:1,go:1", "go:1_0", "go:1.0", "go:00", "go:x", "go:0x1"):
            self.assertEqual(error_of(read_diary, text), (BadText, text))

    def test_wrong_values(self):
        for value in odd_values() + [b"-", b"go", ["-"], ("-",), "0: a=0/0", ["0: a=0/0", "start 0"]]:
            for call, reads in ((read_world, plain_world), (read_row, plain_row), (read_diary, plain_diary)):
                right = type(value) is str and reads(value) is not None
                told = error_of(call, value)
                if right:
                    self.assertIsNone(told)
                else:
                    self.assertIs(told[0], BadText)
                    self.assertIs(told[1], value)

    def test_wrong_rows_and_diaries(self):
        for value in odd_values():
            for told in (value, [value], ["go", value], [("go", 1), value]):
                fault = row_fault(told)
                self.assertEqual(error_of(row_text, told), None if fault is None else (BadRow, fault))
                fault = diary_fault(told)
                self.assertEqual(error_of(diary_text, told), None if fault is None else (BadDiary, fault))
        self.assertTrue(is_item(("go", None)))

    def test_arguments_by_name(self):
        self.assertEqual(world_text(world=example()), EXAMPLE_TEXT)
        self.assertEqual([row_text(row=["a"]), diary_text(diary=[("a", 0)])], ["a", "a:0"])
        self.assertEqual(read_world(text=EXAMPLE_TEXT), example())
        self.assertEqual([read_row(text="a"), read_diary(text="a:0")], [["a"], [("a", 0)]])

    def test_kinds(self):
        self.assertEqual([type(told) for told in (world_text(example()), row_text([]), diary_text([]), read_row("-"),
                                                  read_diary("-"), read_diary("a:0")[0])],
                         [str, str, str, list, list, tuple])
        read_row("-").append(1)
        read_diary("-").append(1)
        self.assertEqual([read_row("-"), read_diary("-")], [[], []])


if __name__ == "__main__":
    unittest.main()
