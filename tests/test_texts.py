import copy
import re
import time
import unittest
from math import gcd

import walking
from heaplets import THREE, ZERO, bad_heaps, moved, tiles_of
from samples import HUGE, odd_things, odd_tuples, seeded, some_corner, some_root
from test_floors import SHIFTS
from test_ribbons import bad_floors
from test_tiles import WAYS
from walking import GO, LONG, PROGRAMS, THERE, TOO_LONG, again, ask, deep, turn

from threetiles.errors import BadFloor, BadHeap, BadNumber, BadProgram, BadText, Barred, FloorError
from threetiles.floors import Floor, barred
from threetiles.pieces import Piece
from threetiles.programs import is_program
from threetiles.roots import Root
from threetiles.texts import (
    number_text, read_floor, read_heap, read_number, read_program, write_floor, write_heap, write_program)

R = Root(0, 1, 1)
LONGEST = 7 * 10 ** 1999 + 3


def no_strings():
    return [thing for thing in odd_things() if not isinstance(thing, str)] + odd_tuples() + [
        0, R, Floor((0, 0)), [""], ("0",), ["0"], b"0", bytearray(b"0"), Piece([]), HUGE]


def is_number_text(text):
    """Whether it is the text of a number, by the words of the document."""
    number = "[1-9][0-9]*"
    found = re.fullmatch(f"(?:(0|-?{number})|(-?)({number})?(r)|(-?{number})([+-])({number})?(r))(?:/({number}))?", text)
    if not found:
        return False
    whole, sign, b, r, top, between, times, root, c = found.groups()
    if "1" in (b, times, c):
        return False
    parts = [int(whole or top or 0), int(b or 1) if r else int(times or 1) if root else 0, int(c or 1)]
    return gcd(*parts) == 1


class TestNumberText(unittest.TestCase):
    def test_examples(self):
        self.assertEqual((number_text(Root(3, -1, 2)), number_text(4), write_heap([((0, 0, 0, 0), 0, 1)])),
                         ("3-r/2", "4", "tile 0 0 0 0 0 1"))

    def test_each_form(self):
        for number, text in [
                (0, "0"), (1, "1"), (-1, "-1"), (17, "17"), (-40, "-40"), (Root(1, 0, 2), "1/2"), (Root(-1, 0, 2), "-1/2"),
                (Root(7, 0, -3), "-7/3"), (R, "r"), (-R, "-r"), (2 * R, "2r"), (-2 * R, "-2r"), (Root(0, 1, 2), "r/2"),
                (Root(0, -1, 2), "-r/2"), (Root(0, 5, 2), "5r/2"), (Root(0, -5, 2), "-5r/2"), (1 + R, "1+r"), (1 - R, "1-r"),
                (R - 1, "-1+r"), (-1 - R, "-1-r"), (3 + 2 * R, "3+2r"), (3 - 2 * R, "3-2r"), (Root(1, 1, 2), "1+r/2"),
                (Root(-1, -1, 2), "-1-r/2"), (Root(3, 4, 5), "3+4r/5"), (Root(-3, -4, 5), "-3-4r/5"), (Root(2, 4, 6), "1+2r/3"),
                (Root(0, 0, 7), "0"), (Root(5, 0, 1), "5"), (Root(10, 11, 1), "10+11r"), (Root(6, 0, 4), "3/2")]:
            self.assertEqual(number_text(number), text)
            self.assertIs(type(number_text(number)), str)
            told = read_number(text)
            self.assertIs(type(told), Root)
            self.assertEqual(told, number)

    def test_all_small_ones(self):
        seen = set()
        for a in (-12, -2, -1, 0, 1, 2, 3, 10):
            for b in (-11, -2, -1, 0, 1, 2, 5):
                for c in (-7, -2, -1, 1, 2, 3, 10):
                    number = Root(a, b, c)
                    text = number_text(number)
                    self.assertTrue(is_number_text(text))
                    self.assertEqual(read_number(text), number)
                    seen.add((text, number.top, number.root, number.bottom))
        self.assertEqual(len({text for text, *parts in seen}), len(seen))

    def test_many_digits(self):
        dice = seeded(261)
        begin = time.monotonic()
        for most in (10 ** 60, 10 ** 64, 10 ** 128 + 1, 10 ** 200, 10 ** 1999):
            for _ in range(5):
                number = Root(dice.randint(-most, most), dice.randint(-most, most), dice.randint(1, most))
                self.assertEqual(read_number(number_text(number)), number)
                self.assertEqual(number_text(number.top), str(number.top))
        for whole in (10 ** 63, 10 ** 64, 10 ** 64 - 1, 10 ** 64 + 1, 10 ** 128, 10 ** 192 - 1, LONGEST, 10 ** 1999, 10 ** 2000 - 1):
            for number in (whole, -whole):
                self.assertEqual(number_text(number), str(number))
                self.assertEqual(read_number(str(number)), number)
                self.assertEqual(read_number(f"{number}+{whole + 2}r/{whole + 1}"), Root(number, whole + 2, whole + 1))
        self.assertLess(time.monotonic() - begin, 5)

    def test_what_comes_of_long_ones(self):
        # Longer than what Python writes at once.
        number = read_number(f"{LONGEST}-{LONGEST + 2}r/{10 ** 1998 + 7}")
        more = number * number * number
        text = number_text(more)
        self.assertGreater(len(text), 15000)
        self.assertEqual(read_number(text), more)

    def test_wrong_numbers(self):
        for thing in odd_things() + odd_tuples() + ["1", 1.0, (1, 2), Floor((0, 0)), [R]]:
            with self.assertRaises(BadNumber) as caught:
                number_text(thing)
            self.assertIs(caught.exception.value, thing)
            self.assertIsInstance(caught.exception, FloorError)

    def test_wrong_texts(self):
        for text in [
                "", " ", "-", "+", "/", "+1", "+r", "-0", "00", "01", "-01", "0r", "1r", "-1r", "+1r", "01r", "-0r", "00r", "rr",
                "r1", "r2", "1 ", " 1", "1\n", "\n1", "1\t", "1 + r", "1 +r", "1+ r", "1+1r", "1-1r", "1+0r", "0+r", "0-r", "0+2r",
                "1+01r", "1+r/1", "1/1", "r/1", "0/1", "0/2", "1/0", "r/0", "1/-2", "-1/-2", "1/+2", "1/02", "2/4", "2r/4", "2+2r/4",
                "2+4r/6", "1//2", "1/2/3", "1/", "/2", "r/", "+", "--1", "1--r", "1+-r", "1-+r", "1++r", "-+1", "+-1", "1r+1", "r+1",
                "1+r+r", "1+2", "1-2", "1+2+r", "R", "1+R", "1.0", "1e3", "0x10", "1_0", "1_0r", "1,0", "(1)", "1+r/2 ", "1+r /2",
                "one", "None", "True", "1/2r", "1/2+r", "r/2+1", "1+r/2r", "r*2", "2*r", "1+2r/", "-/2", "-r/-2", "~", "0" * 70, "-" * 70]:
            self.assertFalse(is_number_text(text), text)
            with self.assertRaises(BadText) as caught:
                read_number(text)
            self.assertEqual(caught.exception.row, 0)
            self.assertIs(type(caught.exception.row), int)
            self.assertIsInstance(caught.exception, FloorError)

    def test_spoiled_texts(self):
        dice = seeded(262)
        seen = {True: 0, False: 0}
        for _ in range(4000):
            text = number_text(some_root(dice, 12, 6))
            for _ in range(dice.randint(1, 2)):
                at = dice.randint(0, len(text))
                text = text[:at] + dice.choice(["", "0", "1", "2", "-", "+", "r", "/", "/2", "1/", " ", "\n"]) + text[at + dice.randint(0, 1):]
            right = is_number_text(text)
            seen[right] += 1
            if right:
                self.assertEqual(number_text(read_number(text)), text)
            else:
                with self.assertRaises(BadText) as caught:
                    read_number(text)
                self.assertEqual(caught.exception.row, 0)
        self.assertGreater(min(seen.values()), 200)

    def test_no_texts(self):
        for thing in no_strings():
            for reader in (read_number, read_heap, read_floor, read_program):
                with self.assertRaises(BadText) as caught:
                    reader(thing)
                self.assertEqual(caught.exception.row, -1)
                self.assertIs(type(caught.exception.row), int)


class TestHeapTexts(unittest.TestCase):
    def test_some(self):
        self.assertEqual(write_heap([]), "")
        self.assertEqual(write_heap(()), "")
        self.assertEqual(read_heap(""), ())
        self.assertEqual(write_heap(THREE), "tile 0 4 6 4 1 3\ntile 1 0 0 -1 1 3\ntile -1 0 0 2 0 2")
        self.assertEqual(read_heap("tile 0 4 6 4 1 3\ntile 1 0 0 -1 1 3\ntile -1 0 0 2 0 2"), tuple(THREE))
        dice = seeded(263)
        for many in (1, 2, 17, 39, 40):
            for most in (3, HUGE, 10 ** 1999):
                heap = [(some_corner(dice, most), *dice.choice(WAYS)) for _ in range(many)]
                text = write_heap(heap)
                self.assertIs(type(text), str)
                self.assertEqual(text.split("\n"), [
                    "tile " + " ".join(map(str, (*corner, i, j))) for corner, i, j in heap])
                told = read_heap(text)
                self.assertIs(type(told), tuple)
                self.assertEqual(told, tuple(heap))
                self.assertEqual(write_heap(tuple(heap)), text)

    def test_41_rows(self):
        row = "tile 0 0 0 0 0 1"
        self.assertEqual(len(read_heap("\n".join([row] * 40))), 40)
        for many in (41, 42, 90):
            with self.assertRaises(BadText) as caught:
                read_heap("\n".join([row] * many))
            self.assertEqual(caught.exception.row, 40)
        # What is wrong ahead of it comes first.
        for at, index in [(0, 0), (20, 20), (39, 39), (40, 40), (41, 40)]:
            rows = [row] * 45
            rows[at] = "tale"
            with self.assertRaises(BadText) as caught:
                read_heap("\n".join(rows))
            self.assertEqual(caught.exception.row, index)

    def test_wrong_rows(self):
        good = "tile 1 2 3 4 0 2"
        for row in ["", " ", "tile", "tile ", "tile 1 2 3 4 0", "tile 1 2 3 4 0 2 3", "tile 1 2 3 4 2 0", "tile 1 2 3 4 2 2",
                    "tile 1 2 3 4 0 4", "tile 1 2 3 4 -1 2", "tile 1 2 3 4 0 02", "tile 01 2 3 4 0 2", "tile +1 2 3 4 0 2",
                    "tile -0 2 3 4 0 2", "tile 1 2 3 4 -0 2", "tile 1  2 3 4 0 2", " tile 1 2 3 4 0 2", "tile 1 2 3 4 0 2 ",
                    "Tile 1 2 3 4 0 2", "tile 1 2 3 4 0 r", "tile 1 2 3 4 0 1/2", "tile\t1 2 3 4 0 2", "tile 1 2 3 4 0\t2",
                    "tile 1,2,3,4,0,2", "tile r 2 3 4 0 2", "1 2 3 4 0 2", "tile x 2 3 4 0 2", "tile 1_0 2 3 4 0 2", "floor 0 0",
                    "tile 1 2 3 4 0 2\t", "tiles 1 2 3 4 0 2", "tile (1, 2, 3, 4) 0 2", "tile 1.0 2 3 4 0 2", "tile  1 2 3 4 0"]:
            for at in (0, 1, 4):
                with self.assertRaises(BadText) as caught:
                    read_heap("\n".join([good] * at + [row] + [good, "bad"] * 2))
                self.assertEqual(caught.exception.row, at)
            if row:
                with self.assertRaises(BadText) as caught:
                    read_heap(row)
                self.assertEqual(caught.exception.row, 0)
        for text, index in [("\n", 0), (good + "\n", 1), ("\n" + good, 0), (good + "\n\n" + good, 1), (good + "\r\n" + good, 0)]:
            with self.assertRaises(BadText) as caught:
                read_heap(text)
            self.assertEqual(caught.exception.row, index)

    def test_wrong_heaps(self):
        for heap, index in bad_heaps():
            with self.assertRaises(BadHeap) as caught:
                write_heap(heap)
            self.assertEqual(caught.exception.index, index)

    def test_nothing_changes(self):
        heap = moved(THREE, (1, 2, 3, HUGE))
        kept = copy.deepcopy(heap)
        self.assertEqual(write_heap(heap), write_heap(heap))
        self.assertEqual(read_heap(write_heap(heap)), read_heap(write_heap(heap)))
        self.assertEqual(heap, kept)


class TestFloorTexts(unittest.TestCase):
    def test_some(self):
        self.assertEqual(write_floor(Floor((0, 0))), "floor 0 0")
        self.assertEqual(write_floor(Floor((Root(1, 2, 5), Root(0, -1, 3)))), "floor 1+2r/5 -r/3")
        self.assertEqual(read_floor("floor 1+2r/5 -r/3"), Floor((Root(1, 2, 5), Root(0, -1, 3))))
        dice = seeded(264)
        for most in (3, 20, HUGE, 10 ** 1990):
            for _ in range(30):
                shift = (some_root(dice, most, most), some_root(dice, most, most))
                if barred(shift) is None:
                    floor = Floor(shift)
                    text = write_floor(floor)
                    self.assertEqual(text, "floor " + number_text(shift[0]) + " " + number_text(shift[1]))
                    told = read_floor(text)
                    self.assertIsInstance(told, Floor)
                    self.assertEqual(told, floor)
        for shift in SHIFTS:
            self.assertEqual(read_floor(write_floor(Floor(shift))), Floor(shift))

    def test_barred(self):
        for text, direction in [("floor 1/2 0", 2), ("floor 0 1/2", 0), ("floor 1/2 1/2", 0), ("floor r/2 0", 1),
                                ("floor r/4 r/4", 1), ("floor 1-r/2 1", 2), ("floor 1/3 1+r/2", 0), ("floor -3+r/2 1/7", 2)]:
            with self.assertRaises(Barred) as caught:
                read_floor(text)
            self.assertEqual(caught.exception.direction, direction)
            x, y = text.split(" ")[1:]
            self.assertEqual(barred((read_number(x), read_number(y))), direction)
        # What is no text of numbers comes first.
        for text in ("floor 1/2 0 ", "floor 1/2 00", "floor 2/4 0", "floor 0 1/2\n"):
            with self.assertRaises(BadText) as caught:
                read_floor(text)
            self.assertEqual(caught.exception.row, 0)

    def test_wrong_texts(self):
        for text in ["", "\n", "floor", "floor ", "floor 0", "floor 0 ", "floor  0", "floor 0 0 0", "floor  0 0", " floor 0 0", "floor 0  0",
                     "floor 0 0 ", "floor 0 0\n", "\nfloor 0 0", "floor 0 0\nfloor 0 0", "Floor 0 0", "floor (0, 0)", "floor 0,0",
                     "floor 0 -0", "floor 00 0", "floor 0 2/4", "floor 0 +1", "floor 0 x", "floor x 0", "0 0", "tile 0 0", "floor\t0 0",
                     "floor 0\t0", "floor 0 1r", "floor 1+ r 0", "floors 0 0", "tile 0 0 0 0 0 1", "floor\n0 0", "floor 0\n0"]:
            with self.assertRaises(BadText) as caught:
                read_floor(text)
            self.assertEqual(caught.exception.row, 0)

    def test_wrong_floors(self):
        for thing in bad_floors():
            with self.assertRaises(BadFloor) as caught:
                write_floor(thing)
            self.assertIs(caught.exception.floor, thing)


ROW = re.compile(r"((?:  )*)(?:(turn|ask) ([0-7])|(go)|(again) (0|[1-9]|[1-5][0-9]|60)|(else))")


def blanks(row):
    return len(row) - len(row.lstrip(" "))


def told_row(row):
    """The tuple (level, word, n) of a row, or None if it is none of these."""
    found = ROW.fullmatch(row)
    if not found:
        return None
    words = [part for part in found.groups()[1:] if part is not None]
    return (len(found.group(1)) // 2, words[0], int(words[1]) if words[1:] else None)


def first_wrong(rows):
    """The index of the first wrong row of a program, by the words of the document, or None."""
    parts = [told_row(row) for row in rows]
    for index, part in enumerate(parts):
        if part is None:
            return index
        level, word, n = part
        ahead = parts[index - 1] if index else None
        lets = 0 if ahead is None else ahead[0] + (ahead[1] in ("ask", "again", "else"))
        if level > lets:
            return index
        if word == "else":
            # The last row ahead that is not farther in is the ask that it closes.
            outer = [other for other in parts[:index] if other[0] <= level]
            if not outer or outer[-1][:2] != (level, "ask"):
                return index
            if index + 1 == len(rows) or blanks(rows[index + 1]) <= blanks(rows[index]):
                return index
    return None


def built(rows):
    """The program of right rows, however deep: lists are filled and turned into tuples at last."""
    top = []
    blocks = {0: top}
    for level, word, n in [told_row(row) for row in rows]:
        if word == "else":
            blocks[level + 1] = blocks[level][-1][3]
            continue
        statement = {"go": ["go"], "turn": ["turn", n], "ask": ["ask", n, [], []], "again": ["again", n, []]}[word]
        blocks[level].append(statement)
        if word in ("ask", "again"):
            blocks[level + 1] = statement[2]
    return frozen(top)


def frozen(thing):
    return tuple([frozen(part) for part in thing]) if isinstance(thing, list) else thing


def told_by(text):
    """What read_program should return, or (error, row)."""
    rows = text.split("\n") if text else []
    index = first_wrong(rows)
    if index is not None:
        return (BadText, index)
    program = built(rows)
    return program if is_program(program) else (BadProgram, None)


class TestProgramTexts(unittest.TestCase):
    def assert_told(self, text):
        expected = told_by(text)
        if len(expected) == 2 and expected[0] in (BadText, BadProgram):
            with self.assertRaises(expected[0]) as caught:
                read_program(text)
            if expected[0] is BadText:
                self.assertEqual(caught.exception.row, expected[1])
                self.assertIs(type(caught.exception.row), int)
            return expected[0]
        told = read_program(text)
        self.assertEqual(told, expected)
        self.assertIs(type(told), tuple)
        self.assertEqual(write_program(told), text)
        return "program"

    def test_simple(self):
        for program, text in [
                ((), ""), ((GO,), "go"), ((turn(3),), "turn 3"), ((GO, turn(0), GO), "go\nturn 0\ngo"), ((ask(7),), "ask 7"),
                ((again(0),), "again 0"), ((again(60, GO), GO), "again 60\n  go\ngo"), ((ask(1, (GO,)), GO), "ask 1\n  go\ngo"),
                ((ask(1, (), (GO,)),), "ask 1\nelse\n  go"), ((ask(1, (GO,), (turn(2), GO)),), "ask 1\n  go\nelse\n  turn 2\n  go"),
                ((ask(0, (ask(1, (), (GO,)),), (ask(2),)), again(3, ask(4))),
                 "ask 0\n  ask 1\n  else\n    go\nelse\n  ask 2\nagain 3\n  ask 4"),
                ((again(1, again(2, again(3))), again(4)), "again 1\n  again 2\n    again 3\nagain 4"),
                ((ask(0, (ask(1),), (GO,)),), "ask 0\n  ask 1\nelse\n  go")]:
            self.assertEqual(write_program(program), text)
            self.assertIs(type(write_program(program)), str)
            self.assertEqual(read_program(text), program)
            self.assertEqual(self.assert_told(text), "program")

    def test_there_and_back(self):
        most = (GO,) * 60
        for program in PROGRAMS + LONG + [TOO_LONG, THERE, most, deep(6), (again(1, *deep(5)), ask(3, deep(5), deep(5))),
                                          (ask(0, (GO,) * 30, (turn(5),) * 29),), (ask(2, (again(0),), (ask(1, (), (ask(0),)),)),)]:
            text = write_program(program)
            self.assertEqual(read_program(text), program)
            self.assertEqual(self.assert_told(text), "program")

    def test_random_programs(self):
        dice = seeded(265)
        for _ in range(300):
            program = some_program(dice, 1, dice.randint(1, 30))
            self.assertTrue(is_program(program))
            self.assertEqual(read_program(write_program(program)), program)

    def test_wrong_rows(self):
        for text, index in [
                (" ", 0), ("\n", 0), ("go\n", 1), ("\ngo", 0), ("go\n\ngo", 1), (" go", 0), ("  go", 0), ("go ", 0), ("Go", 0), ("go 1", 0),
                ("go\n  go", 1), ("go\n go", 1), ("turn 1\n  go", 1), ("turn", 0), ("turn ", 0), ("turn 8", 0), ("turn -1", 0),
                ("turn 01", 0), ("turn +1", 0), ("turn -0", 0), ("turn 00", 0), ("turn  1", 0), ("turn 1 ", 0), ("turn 1 2", 0),
                ("turn r", 0), ("turn 1/2", 0), ("turn x", 0), ("ask", 0), ("ask 8", 0), ("ask 07", 0), ("ask 1 go", 0), ("again", 0),
                ("again 61", 0), ("again 060", 0), ("again -1", 0), ("again 100", 0), ("again 6 0", 0), ("\tgo", 0), ("go\t", 0), ("turn\t1", 0),
                ("again 2\n\tgo", 1), ("again 2\n  \tgo", 1), ("again 2\n go", 1), ("again 2\n   go", 1), ("again 2\n    go", 1),
                ("ask 2\n    go", 1), ("again 2\n  go\n    go", 2), ("again 2\n  go\n go", 2), ("stop", 0), ("# go", 0), ("go;", 0),
                ("again 2\n  again 3\n      go", 2), ("else", 0), ("else\n  go", 0), ("go\nelse\n  go", 1), ("again 1\nelse\n  go", 1),
                ("again 1\n  go\nelse\n  go", 2), ("turn 1\nelse\n  go", 1), ("ask 0\n  go\ngo\nelse\n  go", 3),
                ("ask 0\n  go\n  else\n    go", 2), ("ask 0\n  else\n    go", 1), ("ask 0\n  ask 1\n    else\n      go", 2),
                ("ask 0\nelse", 1), ("ask 0\n  go\nelse", 2), ("ask 0\nelse\ngo", 1), ("ask 0\nelse\nelse\n  go", 1),
                ("ask 0\n  ask 1\n  else\ngo", 2), ("ask 0\nelse\n", 1), ("ask 0\nelse\n  ", 2), ("ask 0\nelse\nxyz", 1),
                ("ask 0\nelse\n  xyz", 2), ("ask 0\nelse\n   go", 2), ("ask 0\nelse\n    go", 2), ("ask 0\nelse\n go", 2), ("ask 0\nelse\n\tgo", 1),
                ("ask 0\nelse\n  go\nelse\n  go", 3), ("ask 0\n  go\nelse\n  go\ngo\nelse\n  go", 5), ("ask 0\nelse 1\n  go", 1),
                ("ask 0\nelse \n  go", 1), ("ask 0\n else\n  go", 1), ("ask 0\n   else\n  go", 1), ("ask 0\nelse\n  go\n    go", 3),
                ("ask 0\n  ask 1\nelse\n  go\n  else\n    go", 4), ("again 2\n  ask 1\nelse\n  go", 2), ("ask 1\ngo\nelse\n  go", 2),
                ("ask 1\n  again 2\nelse\n  turn 1\nelse\n  turn 2", 4), ("go\ngo\nbad", 2), ("go\nbad\nworse", 1), ("bad\ngo", 0)]:
            self.assertEqual(told_by(text), (BadText, index), text)
            self.assertEqual(self.assert_told(text), BadText)

    def test_too_many_and_too_deep(self):
        for many in (58, 59, 60, 61, 62, 500):
            for text in ("\n".join(["go"] * many), "\n".join(["again 2"] + ["  turn 1"] * (many - 1)),
                         "\n".join(["ask 1", "  go", "else"] + ["  go"] * (many - 2))):
                self.assertEqual(self.assert_told(text), "program" if many <= 60 else BadProgram)
        for many in range(1, 12):
            for words in (["again 1"], ["ask 0"], ["again 0", "ask 7"]):
                rows = ["  " * at + words[at % len(words)] for at in range(many)]
                self.assertEqual(self.assert_told("\n".join(rows)), "program" if many <= 6 else BadProgram)
                rows = rows[:-1] + ["  " * (many - 1) + "go"]
                self.assertEqual(self.assert_told("\n".join(rows)), "program" if many <= 6 else BadProgram)
        # Else is no statement, neither to be counted nor deep by itself.
        rows = ["ask 1", "else", "  go"] * 30
        self.assertEqual(self.assert_told("\n".join(rows)), "program")
        self.assertEqual(self.assert_told("\n".join(rows + ["go"])), BadProgram)
        rows = ["  " * at + word for at in range(6) for word in ("ask 1", "else")][:-1]
        self.assertEqual(self.assert_told("\n".join(rows)), "program")
        self.assertEqual(self.assert_told("\n".join(rows + ["  " * 5 + "else", "  " * 6 + "go"])), BadProgram)
        # A wrong row comes first, wherever it is.
        for rows in (["go"] * 61 + ["bad"], ["  " * at + "again 1" for at in range(9)] + ["bad"]):
            with self.assertRaises(BadText) as caught:
                read_program("\n".join(rows))
            self.assertEqual(caught.exception.row, len(rows) - 1)

    def test_very_deep(self):
        begin = time.monotonic()
        for many in (500, 1000):
            with self.assertRaises(BadProgram):
                read_program("\n".join(["  " * at + "again 1" for at in range(many)]))
        with self.assertRaises(BadProgram):
            read_program("\n".join(["go"] * 20000))
        self.assertLess(time.monotonic() - begin, 5)

    def test_spoiled_texts(self):
        dice = seeded(266)
        seen = {}
        for turn_number in range(6000):
            rows = write_program(some_program(dice, 1, dice.randint(1, 14))).split("\n")
            for _ in range(dice.randint(1, 2)):
                at = dice.randrange(len(rows))
                deed = dice.randrange(8)
                if deed == 0:
                    rows[at] = "  " + rows[at]
                elif deed == 1:
                    rows[at] = rows[at][2:] if rows[at].startswith("  ") else rows[at]
                elif deed == 2:
                    rows.insert(at, "  " * dice.randint(0, 3) + dice.choice(["else", "go", "ask 1", "again 0", "turn 7"]))
                elif deed == 3 and len(rows) > 1:
                    rows.pop(at)
                elif deed == 4:
                    rows[at] = dice.choice([" ", "", "\t"]) + rows[at]
                elif deed == 5:
                    rows.insert(at, rows[at])
                elif deed == 6:
                    rows[at] = rows[at].replace("ask", dice.choice(["again", "turn", "aks"]))
                else:
                    rows = rows[:at + 1]
            kind = self.assert_told("\n".join(rows))
            seen[kind] = seen.get(kind, 0) + 1
        self.assertGreater(min(seen["program"], seen[BadText]), 1000)

    def test_wrong_programs(self):
        for thing in walking.bad_programs():
            with self.assertRaises(BadProgram) as caught:
                write_program(thing)
            self.assertIsInstance(caught.exception, FloorError)

    def test_nothing_changes(self):
        for program in PROGRAMS:
            kept = copy.deepcopy(program)
            self.assertEqual(write_program(program), write_program(program))
            self.assertEqual(program, kept)


def some_program(dice, level, many):
    """A program of at most so many statements."""
    block = []
    while many > 0:
        many -= 1
        kind = dice.choice(["go", "turn", "ask", "again"] if level < 6 else ["go", "turn"])
        some, other = dice.randint(0, many // 2), dice.randint(0, many // 3)
        if kind == "go":
            block.append(GO)
        elif kind == "turn":
            block.append(turn(dice.randint(0, 7)))
        elif kind == "ask":
            block.append(ask(dice.randint(0, 7), some_program(dice, level + 1, some), some_program(dice, level + 1, other)))
            many -= some + other
        else:
            block.append(again(dice.randint(0, 60), *some_program(dice, level + 1, some)))
            many -= some
    return tuple(block)


class TestAll(unittest.TestCase):
    def test_papers_of_one_kind_are_none_of_another(self):
        heap = write_heap(tiles_of(Floor((0, 0)), (0, 0), 1)[:3])
        floor = write_floor(Floor(SHIFTS[1]))
        program = write_program(PROGRAMS[7])
        for text, right in ((heap, read_heap), (floor, read_floor), (program, read_program), ("3-r/2", read_number)):
            for reader in (read_heap, read_floor, read_program, read_number):
                if reader is right:
                    reader(text)
                else:
                    with self.assertRaises(BadText) as caught:
                        reader(text)
                    self.assertEqual(caught.exception.row, 0)
        self.assertEqual(read_heap(write_heap([(ZERO, 0, 1)])), ((ZERO, 0, 1),))


if __name__ == "__main__":
    unittest.main()
