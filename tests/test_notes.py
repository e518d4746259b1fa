"""Point 10, and the interface, section ferrynight/notes.py."""

import re
import unittest

from ferrynight.errors import BadNote
from ferrynight.night import Night
from ferrynight.notes import read, shown
from helper import EVERY_PAIR, NIGHTS, SLOWEST, Case, Given, each_night, things_of

WOLF_NOTE = (
    "boat 2\n"
    "thing 1 rows\n"
    "thing 2 sits\n"
    "thing 2 sits\n"
    "thing 2 sits\n"
    "quarrel 1 2 0\n"
    "quarrel 2 3 0\n"
)
SHORTEST_NOTE = "boat 1\nthing 1 sits\n"
THREE = "boat 2\nthing 10 rows\nthing 9 sits\nthing 305 rows\n"
NOTE = re.compile(r"boat [1-3]\n(thing [1-9][0-9]{0,9} (rows|sits)\n){1,6}(quarrel [0-5] [0-5] ([0-5]|-)\n){0,30}")


def is_note(text):
    """Point 10 a second way: the form by a pattern, then what the pattern can't count."""
    if not NOTE.fullmatch(text):
        return False
    rows = [line.split() for line in text.splitlines()]
    count = sum(row[0] == "thing" for row in rows)
    for row in rows:
        if row[0] == "thing" and int(row[1]) > SLOWEST:
            return False
        if row[0] == "quarrel":
            named = [int(word) for word in row[1:] if word != "-"]
            if max(named) >= count or len(set(named)) < len(named):
                return False
    return True


class ShownTest(Case):
    def shows(self, given, text):
        told = shown(given.night())
        self.assertIs(type(told), str)
        self.assertEqual(told, text)

    def test_wolf_goat_and_cabbage(self):
        self.shows(NIGHTS["wolf, goat and cabbage"], WOLF_NOTE)

    def test_smallest(self):
        self.shows(Given([(1, False)], 1, []), SHORTEST_NOTE)

    def test_largest(self):
        quarrels = [(5, 4, 3), (0, 1, -1), (4, 5, 0)] * 10
        text = "boat 3\n" + "thing 1000000000 rows\n" * 6 + "quarrel 5 4 3\nquarrel 0 1 -\nquarrel 4 5 0\n" * 10
        self.shows(Given([(SLOWEST, True)] * 6, 3, quarrels), text)

    def test_rooms(self):
        for room in (1, 2, 3):
            self.shows(Given([(7, True)], room, []), f"boat {room}\nthing 7 rows\n")

    def test_paces(self):
        for pace in (1, 9, 10, 99, 100, 1024, 999999999, 1000000000):
            self.shows(Given([(pace, True), (pace, False)], 2, []), f"boat 2\nthing {pace} rows\nthing {pace} sits\n")

    def test_things_and_quarrels_in_their_order(self):
        quarrels = [(2, 0, 1), (0, 1, -1), (0, 1, 2), (2, 0, 1), (1, 0, -1)]
        text = THREE + "quarrel 2 0 1\nquarrel 0 1 -\nquarrel 0 1 2\nquarrel 2 0 1\nquarrel 1 0 -\n"
        self.shows(Given([(10, True), (9, False), (305, True)], 2, quarrels), text)

    @each_night()
    def test_signs(self, given, night):
        told = shown(night)
        self.assertLessEqual(len(told), 1000)
        self.assertTrue(is_note(told), told)


class ReadTest(Case):
    def reads(self, text, things, room, quarrels):
        night = read(text)
        self.assertIs(type(night), Night)
        self.assertEqual(night.things(), things)
        self.assertEqual([(type(pace), type(rows)) for pace, rows in night.things()], [(int, bool)] * len(things))
        self.assertEqual(night.room(), room)
        self.assertEqual(night.quarrels(), quarrels)
        self.assertEqual({type(row) for row in night.things() + night.quarrels()}, {tuple})
        self.assertEqual({type(number) for row in night.quarrels() for number in row} | {int}, {int})

    def test_notes(self):
        self.reads(SHORTEST_NOTE, [(1, False)], 1, [])
        self.reads(WOLF_NOTE, [(1, True), (2, False), (2, False), (2, False)], 2, [(1, 2, 0), (2, 3, 0)])
        self.reads(THREE, [(10, True), (9, False), (305, True)], 2, [])
        self.reads(THREE + "quarrel 2 0 1\nquarrel 0 1 -\n", [(10, True), (9, False), (305, True)], 2,
                   [(2, 0, 1), (0, 1, -1)])
        self.reads("boat 3\n" + "thing 1000000000 rows\n" * 6 + "quarrel 0 5 -\n" * 30,
                   [(SLOWEST, True)] * 6, 3, [(0, 5, -1)] * 30)

    @each_night()
    def test_what_is_written_is_read(self, given, night):
        self.reads(shown(night), given.things, given.room, given.quarrels)
        self.assertEqual(shown(read(shown(night))), shown(night))

    def test_every_count_pace_and_room(self):
        for count in range(1, 7):
            for room in (1, 2, 3):
                for pace in (1, 10, SLOWEST - 1, SLOWEST):
                    things = things_of(count)[1:] + [(pace, True)]
                    self.reads(shown(Night(things, room, [])), things, room, [])

    def test_every_quarrel(self):
        things = things_of(6)
        for one, other, none in EVERY_PAIR:
            keepers = [keeper for keeper in range(-1, 6) if keeper not in (one, other)]
            quarrels = [(one, other, keeper) for keeper in keepers]
            self.reads(shown(Night(things, 2, quarrels)), things, 2, quarrels)

    def test_counts_of_quarrels(self):
        for count in (0, 1, 2, 29, 30):
            self.reads(shown(Night(things_of(6), 2, EVERY_PAIR[:count])), things_of(6), 2, EVERY_PAIR[:count])

    def test_two_read_from_one_text_are_two(self):
        one, other = read(WOLF_NOTE), read(WOLF_NOTE)
        self.assertIsNot(one, other)
        self.assertIsNot(one.things(), other.things())
        one.things().clear()
        self.assertEqual(shown(one), WOLF_NOTE)


class BadNoteTest(Case):
    def bad(self, *texts):
        for text in texts:
            with self.subTest(text=text):
                self.refused(BadNote, read, text)

    def test_line_ends(self):
        self.bad("", "\n", "\n\n", " ", "boat 1", SHORTEST_NOTE[:-1], WOLF_NOTE[:-1], THREE[:-1])
        self.bad(SHORTEST_NOTE + "\n", "\n" + SHORTEST_NOTE, WOLF_NOTE + "\n", WOLF_NOTE.replace("\n", "\n\n"))
        self.bad("boat 1\n\nthing 1 sits\n", THREE + "\nquarrel 0 1 2\n", THREE + "quarrel 0 1 2\n\n")
        self.bad(WOLF_NOTE.replace("\n", " "), WOLF_NOTE.replace("\n", ""), WOLF_NOTE.replace("\n", "\\n"))
        self.bad("boat 1 thing 1 sits\n", "boat 1\nthing 1 sits thing 1 sits\n")

    def test_each_line_left_out_or_doubled(self):
        lines = THREE.splitlines(keepends=True)
        self.bad("".join(lines[1:]), lines[0], lines[0] + THREE)

    def test_boat(self):
        self.bad("thing 1 rows\n", "quarrel 0 1 -\n", "boat 1\n")
        self.bad("boat 1\nboat 1\nthing 1 rows\n", "boat 1\nthing 1 rows\nboat 1\n", "thing 1 rows\nboat 1\n")
        self.bad(THREE + "boat 2\n", THREE + "quarrel 0 1 2\nboat 2\n", THREE + "boat 2\nquarrel 0 1 2\n")
        self.bad("boat\nthing 1 rows\n", "boat \nthing 1 rows\n", "boat 1 1\nthing 1 rows\n", "boat1\nthing 1 rows\n")
        self.bad(*[f"boat {room}\nthing 1 rows\n" for room in (0, 4, 5, 9, 10, 11, 20, 30, 100, 10 ** 9, "-", -1)])

    def test_things(self):
        self.bad("boat 1\n", "boat 1\nquarrel 0 1 -\n")
        self.bad("boat 1\n" + "thing 1 rows\n" * 7, "boat 1\n" + "thing 1 rows\n" * 70)
        self.bad(THREE + "quarrel 0 1 2\nthing 1 rows\n", "boat 1\nquarrel 0 1 -\nthing 1 rows\nthing 1 rows\n")
        self.bad(THREE + "quarrel 0 1 2\nthing 1 rows\nquarrel 0 1 2\n")
        self.bad(*["boat 1\n" + line + "\n" for line in (
            "thing", "thing ", "thing 1", "thing 1 ", "thing rows", "thing  rows", "thing rows 1", "thing 1 rows rows",
            "thing 1 rows sits", "thing 1 1 rows", "thing 1rows", "thing1 rows", "thing 1 row", "thing 1 sit",
            "thing 1 swims", "thing 1 True", "thing 1 1", "thing 1 -", "thing - rows", "thing 1 rowssits", "1 rows")])

    def test_quarrels(self):
        self.bad(*[THREE + line + "\n" for line in (
            "quarrel", "quarrel ", "quarrel 0", "quarrel 0 1", "quarrel 0 1 ", "quarrel 0 1 2 -", "quarrel 0 1 - -",
            "quarrel 0 1 2 2", "quarrel 0-1 2", "quarrel 0 1 none", "quarrel 0 1 --", "quarrel 0 1 -1",
            "quarrel 0 1 -2", "quarrel - 1 2", "quarrel 0 - 2", "quarrel - - -", "quarrel -1 1 2", "quarrel 0 -1 2",
            "quarrel 01 2", "quarrel 0 12", "quarrel 0 1-", "quarrels 0 1 2", "0 1 2")])
        self.bad(THREE + "quarrel 0 1 -\n" * 31, THREE + "quarrel 0 1 2\n" * 32, THREE + "quarrel 0 1 -\n" * 60)

    def test_quarrels_of_wrong_things(self):
        for line in (
            "0 0 -", "1 1 -", "2 2 0", "3 0 -", "0 3 -", "0 4 1", "9 0 -", "10 0 -", "0 10 -", "0 1 3", "0 1 4",
            "0 1 10", "0 1 0", "0 1 1", "2 1 1", "2 1 2", "0 1000000000 -", "0 1 1000000000",
        ):
            for ahead, behind in (("", ""), ("quarrel 0 1 2\n", "quarrel 0 1 -\n")):
                self.bad(THREE + ahead + f"quarrel {line}\n" + behind)

    def test_quarrel_among_too_few_things(self):
        self.bad("boat 1\nthing 1 rows\nquarrel 0 1 -\n", "boat 1\nthing 1 rows\nthing 1 rows\nquarrel 0 1 2\n")

    def test_blanks(self):
        for text in (SHORTEST_NOTE, THREE + "quarrel 0 1 2\nquarrel 0 1 -\n"):
            for place in range(len(text) + 1):
                self.bad(text[:place] + " " + text[place:])
            for place, sign in enumerate(text):
                if sign == " ":
                    self.bad(text[:place] + text[place + 1:], text[:place] + "\t" + text[place + 1:])
                    self.bad(text[:place] + "\n" + text[place + 1:], text[:place] + "_" + text[place + 1:])

    def with_number(self, written):
        return [
            f"boat {written}\nthing 1 rows\n", f"boat 1\nthing {written} rows\n",
            f"boat 1\nthing 1 sits\nthing {written} sits\n",
            THREE + f"quarrel {written} 0 -\n", THREE + f"quarrel 0 {written} -\n", THREE + f"quarrel 0 2 {written}\n",
        ]

    def test_numbers(self):
        for text in self.with_number(1):
            read(text)
        for written in (
            "01", "001", "00", "+1", "-1", "-0", "+0", "1_0", "1_", "_1", "0_1", "1.", "1.0", "1,0", "1e0", "0x1",
            "0b1", "one", "I", "1 1", "", " 1", "1 ", "1L", "(1)", "'1'", "1;", "l", "O", "--", "+", "~1", "1!",
        ):
            self.bad(*self.with_number(written))

    def test_every_sign_that_is_no_figure(self):
        for sign in map(chr, range(ord(" "), ord("~") + 1)):
            if not "0" <= sign <= "9":
                for text in self.with_number(sign) + self.with_number("1" + sign) + self.with_number(f"1{sign}1"):
                    if not is_note(text):
                        self.refused(BadNote, read, text)

    def test_signs_that_python_takes_for_figures(self):
        for written in ("\u0661", "\u00b2", "\uff11", "\u0967", "1\u0660"):
            self.bad(*self.with_number(written))

    def test_noughts_ahead(self):
        self.bad("boat 02\nthing 1 rows\n", "boat 1\nthing 010 rows\n", "boat 1\nthing 0000000001 rows\n")
        self.bad("boat 1\nthing 01000000000 rows\n", THREE + "quarrel 00 1 2\n", THREE + "quarrel 0 01 2\n")
        self.bad(THREE + "quarrel 0 1 02\n", THREE + "quarrel 1 2 00\n")

    def test_paces_beyond_the_bounds(self):
        more = ["1000000001", "1999999999", "9999999999", "10000000000", "9" * 20, "1" + "0" * 900, "9" * 980]
        for pace in ["0", "9" * 5000] + more:
            self.bad(f"boat 1\nthing {pace} rows\n", f"boat 1\nthing 1 rows\nthing {pace} sits\nthing 1 rows\n")

    def test_numbers_beyond_the_bounds(self):
        for number in ("7", "99", "9" * 11, "9" * 950, "9" * 5000):
            self.bad(f"boat {number}\nthing 1 rows\n")
            self.bad(*[THREE + f"quarrel {three}\n" for three in (f"{number} 0 -", f"0 {number} -", f"0 1 {number}")])

    def test_words(self):
        for text in (WOLF_NOTE, THREE + "quarrel 0 1 -\n"):
            self.bad(text.upper(), text.title(), text.replace("boat", "Boat"), text.replace("thing", "Thing"))
            self.bad(text.replace("rows", "Rows"), text.replace("sits", "SITS"), text.replace("quarrel", "Quarrel"))
            self.bad(text.replace("boat", "ship"), text.replace("thing", "things"), text.replace("quarrel", "row"))
            self.bad(text + "end\n", "night\n" + text, text + "# remark\n", text[::-1], text + text)

    def test_other_ends_of_a_line(self):
        for end in ("\r\n", "\r", "\x0b", "\x0c", "\x1c", "\x85", "\u2028"):
            self.bad(WOLF_NOTE.replace("\n", end), WOLF_NOTE.replace("\n", end, 1), WOLF_NOTE.replace("\n", end) + "\n")

    def test_every_small_change(self):
        signs = "\n 0123459-+_abinoqrstwBTQRS~!."
        three = "boat 1\nthing 10 sits\nthing 7 rows\nthing 2 sits\nquarrel 0 1 2\nquarrel 2 1 -\n"
        for text in ("boat 2\nthing 1 rows\n", three):
            changed = {text[:place] + text[place + 1:] for place in range(len(text))}
            for sign in signs:
                changed |= {text[:place] + sign + text[place + 1:] for place in range(len(text))}
                changed |= {text[:place] + sign + text[place:] for place in range(len(text) + 1)}
            kept = [each for each in sorted(changed) if is_note(each)]
            self.assertGreater(len(kept), 10)
            for each in kept:
                self.assertEqual(shown(read(each)), each)
            for each in sorted(changed - set(kept)):
                self.refused(BadNote, read, each)

    def test_lines_in_every_other_order(self):
        lines = (THREE + "quarrel 0 1 2\nquarrel 2 1 -\n").splitlines(keepends=True)
        for one in range(len(lines)):
            for other in range(len(lines)):
                swapped = list(lines)
                swapped[one], swapped[other] = swapped[other], swapped[one]
                text = "".join(swapped)
                if is_note(text):
                    self.assertEqual(shown(read(text)), text)
                else:
                    self.refused(BadNote, read, text)

    def test_long_texts(self):
        self.bad("a" * 1000, " " * 1000, "\n" * 1000, "boat 1\n" * 140, "0" * 1100, WOLF_NOTE * 15, "~" * 1001)


if __name__ == "__main__":
    unittest.main()
