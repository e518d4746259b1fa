"""Points 1 to 4, and the interface, section ferrynight/night.py."""

import itertools
import unittest

from ferrynight.errors import BadQuarrel, BadRoom, BadThing
from ferrynight.night import Night
from helper import EVERY_PAIR, SLOWEST, Case, all_groups, things_of

ROWER = (5, True)
SITTER = (7, False)


def put_at_places(good, bad):
    """The list `good` with `bad` at its first, a middle and its last place in turn."""
    for place in (0, len(good) // 2, len(good) - 1):
        changed = list(good)
        changed[place] = bad
        yield place, changed


class NightCase(Case):
    def unmade(self, error, things, room, quarrels):
        self.refused(error, Night, things, room, quarrels)

    def tells(self, night, things, room, quarrels):
        self.assertEqual(night.things(), things)
        self.assertEqual(night.room(), room)
        self.assertEqual(night.quarrels(), quarrels)

    def made(self, things, room, quarrels):
        night = Night(list(things), room, list(quarrels))
        self.tells(night, things, room, quarrels)
        return night


class OwnListsTest(NightCase):
    """Point 1."""

    THINGS = [(1, True), (2, False), (3, True)]
    QUARRELS = [(0, 1, 2), (1, 2, -1)]

    def all_told(self, night):
        peace = [night.peace(group) for group in all_groups(3)]
        return [night.things(), night.room(), night.quarrels(), night.begins(), night.ends(), peace]

    def test_lists_changed_behind_the_making(self):
        def longer(handed):
            handed.append(handed[0])

        def other_first(handed):
            handed[0] = handed[-1]

        def turned(handed):
            handed.reverse()

        for change in (longer, other_first, turned, list.clear):
            with self.subTest(change.__name__):
                things, quarrels = list(self.THINGS), list(self.QUARRELS)
                night = Night(things, 2, quarrels)
                before = self.all_told(night)
                change(things)
                change(quarrels)
                self.assertEqual(self.all_told(night), before)
                self.tells(night, self.THINGS, 2, self.QUARRELS)

    def test_empty_list_of_quarrels_filled_behind_the_making(self):
        quarrels = []
        night = Night(list(self.THINGS), 2, quarrels)
        quarrels.append((0, 1, -1))
        self.assertEqual(night.quarrels(), [])
        self.assertIs(night.peace((0, 1)), True)

    def test_told_lists_changed(self):
        night = Night(list(self.THINGS), 2, list(self.QUARRELS))
        before = self.all_told(night)
        night.things().clear()
        night.quarrels().clear()
        night.things().append((9, True))
        night.quarrels().append((0, 2, -1))
        night.things()[0] = (9, True)
        night.quarrels()[0] = (0, 2, -1)
        self.assertEqual(self.all_told(night), before)
        self.tells(night, self.THINGS, 2, self.QUARRELS)

    def test_no_two_lists_told_are_one(self):
        for given in (self.QUARRELS, []):
            things, quarrels = list(self.THINGS), list(given)
            night = Night(things, 2, quarrels)
            twin = Night(things, 2, quarrels)
            lists = [things, quarrels]
            for teller in (night, twin, night):
                lists += [teller.things(), teller.quarrels()]
            for one, other in itertools.combinations(lists, 2):
                self.assertIsNot(one, other)

    def test_told_lists_are_lists_of_tuples(self):
        night = Night(list(self.THINGS), 2, list(self.QUARRELS))
        for told in (night.things(), night.quarrels()):
            self.assertIs(type(told), list)
            for row in told:
                self.assertIs(type(row), tuple)

    def test_what_is_handed_in_is_not_changed(self):
        things, quarrels = list(self.THINGS), list(self.QUARRELS)
        night = Night(things, 2, quarrels)
        self.all_told(night)
        self.assertEqual(things, self.THINGS)
        self.assertEqual(quarrels, self.QUARRELS)

    def test_what_is_refused_is_not_changed(self):
        refusals = [
            (BadThing, [(2, True), (0, True), (1, False)], 2, [(0, 1, -1)]),
            (BadRoom, [(2, True), (1, False)], 4, [(0, 1, -1)]),
            (BadQuarrel, [(2, True), (1, False)], 2, [(1, 0, -1), (1, 1, -1), (0, 1, -1)]),
        ]
        for error, given, room, quarrelling in refusals:
            with self.subTest(error.__name__):
                things, quarrels = list(given), list(quarrelling)
                self.unmade(error, things, room, quarrels)
                self.assertEqual(things, given)
                self.assertEqual(quarrels, quarrelling)


class EdgesTest(NightCase):
    """Point 2: nights that are made."""

    def test_counts_of_things(self):
        for count in range(1, 7):
            with self.subTest(count):
                self.made(things_of(count), 2, [])

    def test_paces(self):
        for pace in (1, 2, SLOWEST - 1, SLOWEST):
            for place, things in put_at_places(things_of(6), (pace, False)):
                with self.subTest(pace=pace, place=place):
                    self.made(things, 2, [])

    def test_things_that_row_and_that_sit(self):
        things = [ROWER, SITTER, ROWER, SITTER]
        self.made(things, 1, [])
        told = Night(things, 1, []).things()
        self.assertEqual([type(rows) for pace, rows in told], [bool] * 4)
        self.made([SITTER], 1, [])
        self.made([SITTER, SITTER], 1, [])

    def test_rooms(self):
        for room in (1, 2, 3):
            for count in (1, 6):
                with self.subTest(room=room, count=count):
                    self.made(things_of(count), room, [])

    def test_counts_of_quarrels(self):
        self.assertEqual(len(EVERY_PAIR), 30)
        for count in (0, 1, 29, 30):
            with self.subTest(count):
                self.made(things_of(6), 2, EVERY_PAIR[:count])

    def test_thirty_quarrels_alike(self):
        self.made(things_of(2), 2, [(0, 1, -1)] * 30)

    def test_every_quarrel_of_six_things(self):
        for one, other in itertools.permutations(range(6), 2):
            for keeper in range(-1, 6):
                if keeper not in (one, other):
                    with self.subTest(quarrel=(one, other, keeper)):
                        self.made(things_of(6), 2, [(one, other, keeper)])

    def test_quarrels_with_and_without_a_keeper_keep_their_order(self):
        self.made(things_of(4), 3, [(3, 0, 1), (2, 1, -1), (0, 1, 2), (0, 1, -1), (2, 1, -1)])


class RefusalsTest(NightCase):
    """Point 2: nights that are refused."""

    def test_too_few_or_too_many_things(self):
        for count in (0, 7, 8, 20):
            with self.subTest(count):
                self.unmade(BadThing, things_of(count), 2, [])

    def test_paces(self):
        for pace in (0, -1, -SLOWEST, SLOWEST + 1, 10 ** 12):
            for count in (1, 3, 6):
                for place, things in put_at_places(things_of(count), (pace, True)):
                    with self.subTest(pace=pace, count=count, place=place):
                        self.unmade(BadThing, things, 2, [])

    def test_pace_of_one_that_sits(self):
        for pace in (0, SLOWEST + 1):
            self.unmade(BadThing, [ROWER, (pace, False)], 2, [])

    def test_rooms(self):
        for room in (0, -1, -3, 4, 5, 6, 100):
            for count in (1, 6):
                with self.subTest(room=room, count=count):
                    self.unmade(BadRoom, things_of(count), room, [])

    def test_too_many_quarrels(self):
        for count in (31, 32, 60):
            for quarrel in ((0, 1, -1), (1, 2, 0)):
                with self.subTest(count=count, quarrel=quarrel):
                    self.unmade(BadQuarrel, things_of(3), 2, [quarrel] * count)

    def refused_at_each_place(self, bad):
        good = [(0, 1, -1), (1, 2, 3), (3, 0, 2), (2, 1, 0), (0, 2, -1)]
        for length in (1, 5, 30):
            for place, quarrels in put_at_places((good * 6)[:length], bad):
                with self.subTest(bad=bad, length=length, place=place):
                    self.unmade(BadQuarrel, things_of(4), 2, quarrels)

    def test_quarrel_of_a_thing_with_itself(self):
        for bad in ((0, 0, -1), (3, 3, -1), (1, 1, 2)):
            self.refused_at_each_place(bad)

    def test_quarrel_with_a_thing_that_is_not_there(self):
        for missing in (-2, -1, 4, 5):
            for bad in ((missing, 0, -1), (0, missing, -1), (missing, 0, 1), (0, missing, 1)):
                self.refused_at_each_place(bad)

    def test_keeper_that_is_one_of_the_two(self):
        for bad in ((0, 1, 0), (0, 1, 1), (3, 2, 3), (3, 2, 2)):
            self.refused_at_each_place(bad)

    def test_keeper_that_is_not_there(self):
        for missing in (-2, -3, 4, 5):
            self.refused_at_each_place((0, 1, missing))

    def test_which_things_are_there_hangs_on_their_count(self):
        for count in range(1, 6):
            with self.subTest(count):
                self.unmade(BadQuarrel, things_of(count), 2, [(0, count, -1)])
                self.made(things_of(count + 1), 2, [(0, count, -1)])
        for count in range(2, 6):
            with self.subTest(count):
                self.unmade(BadQuarrel, things_of(count), 2, [(0, 1, count)])
                self.made(things_of(count + 1), 2, [(0, 1, count)])


class OrderOfRefusalsTest(NightCase):
    """Point 2: BadThing ahead of BadRoom ahead of BadQuarrel."""

    BAD_THINGS = [[], things_of(7), [(0, True)], [ROWER, (SLOWEST + 1, False)]]
    BAD_ROOMS = [0, -1, 4, 9]
    BAD_QUARRELS = [[(0, 0, -1)], [(0, 9, -1)], [(0, 1, 1)], [(0, 1, -2)], [(0, 1, -1)] * 31]

    def test_bad_thing_comes_first(self):
        for things in self.BAD_THINGS:
            for room in self.BAD_ROOMS + [2]:
                for quarrels in self.BAD_QUARRELS + [[]]:
                    with self.subTest(things=things, room=room, quarrels=quarrels):
                        self.unmade(BadThing, things, room, quarrels)

    def test_bad_room_comes_ahead_of_bad_quarrel(self):
        for room in self.BAD_ROOMS:
            for quarrels in self.BAD_QUARRELS:
                with self.subTest(room=room, quarrels=quarrels):
                    self.unmade(BadRoom, things_of(3), room, quarrels)

    def test_bad_quarrel_comes_last(self):
        for quarrels in self.BAD_QUARRELS:
            with self.subTest(quarrels=quarrels):
                self.unmade(BadQuarrel, things_of(3), 2, quarrels)


class PeaceTest(NightCase):
    """Point 3."""

    def peace_but_in(self, count, quarrels, without_peace):
        night = Night(things_of(count), 2, quarrels)
        for group in all_groups(count):
            with self.subTest(quarrels=quarrels, group=group):
                self.assertIs(night.peace(group), group not in without_peace)

    def test_no_quarrels(self):
        for count in (1, 3, 6):
            self.peace_but_in(count, [], [])

    def test_quarrel_without_a_keeper(self):
        for quarrel in ((0, 2, -1), (2, 0, -1)):
            self.peace_but_in(3, [quarrel], [(0, 2), (0, 1, 2)])

    def test_quarrel_of_the_only_two(self):
        self.peace_but_in(2, [(0, 1, -1)], [(0, 1)])

    def test_quarrel_with_a_keeper(self):
        for quarrel in ((0, 1, 2), (1, 0, 2)):
            self.peace_but_in(4, [quarrel], [(0, 1), (0, 1, 3)])

    def test_the_first_thing_keeps(self):
        self.peace_but_in(4, [(1, 2, 0)], [(1, 2), (1, 2, 3)])

    def test_the_last_thing_keeps(self):
        self.peace_but_in(4, [(1, 2, 3)], [(1, 2), (0, 1, 2)])

    def test_several_quarrels_with_one_keeper(self):
        self.peace_but_in(4, [(1, 2, 0), (2, 3, 0)], [(1, 2), (2, 3), (1, 2, 3)])

    def test_several_quarrels_with_unlike_keepers(self):
        self.peace_but_in(4, [(0, 1, 2), (2, 3, 1)], [(0, 1), (0, 1, 3), (2, 3), (0, 2, 3)])

    def test_one_pair_with_two_keepers_needs_both(self):
        self.peace_but_in(4, [(0, 1, 2), (1, 0, 3)], [(0, 1), (0, 1, 2), (0, 1, 3)])

    def test_one_pair_with_and_without_a_keeper(self):
        for quarrels in ([(0, 1, 2), (0, 1, -1)], [(0, 1, -1), (0, 1, 2)]):
            self.peace_but_in(3, quarrels, [(0, 1), (0, 1, 2)])

    def test_the_whole_of_six(self):
        self.peace_but_in(6, [(0, 5, 3)], [
            (0, 5), (0, 1, 5), (0, 2, 5), (0, 4, 5),
            (0, 1, 2, 5), (0, 1, 4, 5), (0, 2, 4, 5), (0, 1, 2, 4, 5),
        ])

    def test_every_pair_of_six_without_a_keeper(self):
        self.peace_but_in(6, EVERY_PAIR, [group for group in all_groups(6) if len(group) > 1])

    def test_each_place_among_thirty_quarrels_counts(self):
        for place in range(30):
            quarrels = [(0, 1, 2)] * 30
            quarrels[place] = (1, 2, -1)
            self.peace_but_in(3, quarrels, [(0, 1), (1, 2), (0, 1, 2)])


class StandingsTest(NightCase):
    """Point 4: with what the night begins and with what it ends."""

    BEGINS = {
        1: ((0,), 0),
        2: ((0, 1), 0),
        3: ((0, 1, 2), 0),
        6: ((0, 1, 2, 3, 4, 5), 0),
    }

    def tuple_with_whole_side(self, standing):
        self.assertIs(type(standing), tuple)
        self.assertEqual(len(standing), 2)
        self.assertIs(type(standing[0]), tuple)
        self.assertIs(type(standing[1]), int)

    def test_begins(self):
        for count, standing in self.BEGINS.items():
            with self.subTest(count):
                night = Night(things_of(count), 1, [])
                self.assertEqual(night.begins(), standing)
                self.tuple_with_whole_side(night.begins())

    def test_ends(self):
        for count in self.BEGINS:
            with self.subTest(count):
                night = Night(things_of(count), 1, [])
                self.assertEqual(night.ends(), ((), 1))
                self.tuple_with_whole_side(night.ends())

    def test_begins_and_ends_whatever_the_quarrels(self):
        night = Night(things_of(3), 3, [(0, 1, -1), (1, 2, 0)])
        self.assertEqual(night.begins(), ((0, 1, 2), 0))
        self.assertEqual(night.ends(), ((), 1))


if __name__ == "__main__":
    unittest.main()
