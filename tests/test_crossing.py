"""Points 4 to 6, and the interface, section ferrynight/crossing.py."""

import itertools
import unittest

from ferrynight.crossing import after, crews, good, minutes
from ferrynight.errors import BadStart, NoCrew, NoStanding
from ferrynight.plans import shortest, takes
from helper import NIGHTS, SLOWEST, Case, Given, all_groups, each_night, no_standings

WOLF_NIGHT = NIGHTS["wolf, goat and cabbage"]


def tuples_around(count, longest):
    """Every tuple up to that length of things and of numbers just beside them."""
    for size in range(longest + 1):
        yield from itertools.product(range(-1, count + 1), repeat=size)


class GoodTest(Case):
    """Point 4: good standings."""

    @each_night()
    def test_every_standing(self, given, night):
        for standing in given.standings():
            self.assertIs(good(night, standing), given.is_good(standing), standing)

    def good_groups(self, things, quarrels, expected):
        night = Given(things, 2, quarrels).night()
        for side in (0, 1):
            told = [group for group in all_groups(len(things)) if good(night, (group, side))]
            self.assertEqual(told, expected)

    def test_no_quarrels(self):
        self.good_groups([(1, True)], [], [(), (0,)])
        self.good_groups([(1, True), (1, True)], [], [(), (0,), (1,), (0, 1)])

    def test_quarrel_without_a_keeper_parts_the_two(self):
        self.good_groups([(1, True)] * 3, [(0, 2, -1)], [(0,), (2,), (0, 1), (1, 2)])

    def test_quarrel_with_a_keeper(self):
        # All but those with 0 and 1 on one bank and 2 on the other.
        self.good_groups([(1, True)] * 3, [(0, 1, 2)], [(), (0,), (1,), (0, 2), (1, 2), (0, 1, 2)])

    def test_wolf_goat_and_cabbage(self):
        self.good_groups(WOLF_NIGHT.things, WOLF_NIGHT.quarrels, [
            (), (1,), (2,), (3,), (0, 2), (1, 3), (0, 1, 2), (0, 1, 3), (0, 2, 3), (0, 1, 2, 3)])

    def test_begin_and_end_need_not_be_good(self):
        night = Given([(1, True)] * 3, 3, [(0, 1, -1)]).night()
        self.assertIs(good(night, night.begins()), False)
        self.assertIs(good(night, night.ends()), False)
        self.assertIs(good(night, ((0, 2), 1)), True)

    def test_no_good_standing_at_all(self):
        given = NIGHTS["six, every pair quarrels"]
        night = given.night()
        for standing in given.standings():
            self.assertIs(good(night, standing), False)


class NoStandingTest(Case):
    """Point 4: standings that are none of the night's."""

    @each_night()
    def test_refused_by_all(self, given, night):
        for standing in no_standings(given.count()):
            self.refused(NoStanding, good, night, standing)
            self.refused(NoStanding, crews, night, standing)
            self.refused(NoStanding, shortest, night, standing)
            for crew in ((0,), (), (-1,), (0, 0)):
                self.refused(NoStanding, after, night, standing, crew)
            for plan in ([], [(0,)], [()], [(-1,)]):
                self.refused(NoStanding, takes, night, standing, plan)

    @each_night()
    def test_the_nights_own_are_not_refused(self, given, night):
        for standing in given.standings():
            good(night, standing)

    def test_which_things_are_there_hangs_on_the_night(self):
        for count in range(1, 6):
            few = Given([(1, True)] * count, 1, []).night()
            more = Given([(1, True)] * (count + 1), 1, []).night()
            for group in ((count,), (0, count)):
                self.refused(NoStanding, good, few, (group, 0))
                self.assertIs(good(more, (group, 0)), True)


class BadStartTest(Case):
    """Point 6: BadStart behind NoStanding, ahead of NoCrew."""

    @each_night()
    def test_refused_by_all_but_good(self, given, night):
        for standing in given.bad_ones():
            self.assertIs(good(night, standing), False)
            self.refused(BadStart, crews, night, standing)
            self.refused(BadStart, shortest, night, standing)
            for crew in list(all_groups(given.count())) + [(-1,), (9,), (0, 0), (1, 0)]:
                self.refused(BadStart, after, night, standing, crew)
            for plan in ([], [(0,)], [()], [(-1,)], [(9,), (0,)]):
                self.refused(BadStart, takes, night, standing, plan)

    def test_crossing_from_a_bad_standing_to_a_good_one(self):
        # The keeper 2 would make peace again, but nothing goes any more.
        night = Given([(1, True)] * 3, 1, [(0, 1, 2)]).night()
        self.assertIs(good(night, ((0, 1), 1)), False)
        self.assertIs(good(night, ((0, 1, 2), 0)), True)
        self.refused(BadStart, after, night, ((0, 1), 1), (2,))
        self.refused(BadStart, crews, night, ((0, 1), 1))

    def test_plan_from_a_bad_standing(self):
        # 0 and 1 are left alone on the first bank, and one crossing would bring both to the end.
        night = Given([(1, True)] * 3, 2, [(0, 1, 2)]).night()
        self.refused(BadStart, takes, night, ((0, 1), 0), [(0, 1)])
        self.refused(BadStart, shortest, night, ((0, 1), 0))

    def test_the_end_itself(self):
        night = Given([(1, True), (1, True)], 2, [(0, 1, -1)]).night()
        self.refused(BadStart, takes, night, night.ends(), [])
        self.refused(BadStart, shortest, night, night.ends())
        self.refused(BadStart, shortest, night, night.begins())

    @each_night()
    def test_good_ones_are_not_refused(self, given, night):
        for standing in given.good_ones():
            crews(night, standing)
            takes(night, standing, [])

    def test_no_standing_comes_first(self):
        night = Given([(1, True)] * 3, 2, [(0, 1, -1)]).night()
        for standing in (((0, 1), 2), ((0, 1), -1), ((1, 0), 0), ((0, 1, 1), 0), ((0, 1, 3), 1), ((-1, 0, 1), 1)):
            self.refused(NoStanding, good, night, standing)
            self.refused(NoStanding, crews, night, standing)
            self.refused(NoStanding, shortest, night, standing)
            self.refused(NoStanding, after, night, standing, ())
            self.refused(NoStanding, after, night, standing, (2,))
            self.refused(NoStanding, takes, night, standing, [])
            self.refused(NoStanding, takes, night, standing, [()])


class CrewsTest(Case):
    """Point 5: the crews that are let."""

    @each_night()
    def test_against_all_groups(self, given, night):
        for standing in given.good_ones():
            told = crews(night, standing)
            self.assertIs(type(told), list)
            self.assertEqual(told, given.let(standing), standing)
            for crew in told:
                self.is_group(crew)

    def lets(self, given, standing, expected):
        self.assertEqual(crews(given.night(), standing), expected)

    def test_rooms_and_the_order_of_tuples(self):
        things = [(1, True)] * 3
        start = ((0, 1, 2), 0)
        self.lets(Given(things, 1, []), start, [(0,), (1,), (2,)])
        self.lets(Given(things, 2, []), start, [(0,), (0, 1), (0, 2), (1,), (1, 2), (2,)])
        self.lets(Given(things, 3, []), start, [(0,), (0, 1), (0, 1, 2), (0, 2), (1,), (1, 2), (2,)])

    def test_only_who_is_where_the_boat_is(self):
        given = Given([(1, True)] * 4, 2, [])
        self.lets(given, ((1, 3), 0), [(1,), (1, 3), (3,)])
        self.lets(given, ((1, 3), 1), [(0,), (0, 2), (2,)])
        self.lets(given, ((), 0), [])
        self.lets(given, ((0, 1, 2, 3), 1), [])

    def test_nobody_rows(self):
        for name in ("one that sits", "two that sit", "three that sit"):
            for standing in NIGHTS[name].standings():
                self.lets(NIGHTS[name], standing, [])

    def test_one_at_least_rows(self):
        given = Given([(1, False), (1, True), (1, False)], 3, [])
        self.lets(given, ((0, 1, 2), 0), [(0, 1), (0, 1, 2), (1,), (1, 2)])
        self.lets(given, ((0, 2), 0), [])
        self.lets(given, ((0, 2), 1), [(1,)])
        self.lets(given, ((1,), 1), [])

    def test_quarrel_left_behind_on_the_first_bank(self):
        self.lets(WOLF_NIGHT, ((0, 1, 2, 3), 0), [(0, 2)])
        self.lets(WOLF_NIGHT, ((0, 1, 2), 0), [(0, 1), (0, 2)])

    def test_quarrel_left_behind_on_the_other_bank(self):
        self.lets(WOLF_NIGHT, ((), 1), [(0, 2)])
        self.lets(WOLF_NIGHT, ((3,), 1), [(0, 1), (0, 2)])

    def test_quarrel_come_to(self):
        given = Given([(1, True)] * 3, 2, [(0, 1, -1)])
        self.lets(given, ((0, 2), 0), [(2,)])
        self.lets(given, ((0,), 1), [(2,)])
        self.lets(given, ((0,), 0), [])

    def test_end(self):
        self.lets(NIGHTS["torch"], ((), 1), [
            (0,), (0, 1), (0, 2), (0, 3), (1,), (1, 2), (1, 3), (2,), (2, 3), (3,)])

    @each_night()
    def test_every_crossing_can_be_taken_back(self, given, night):
        for standing in given.good_ones():
            for crew in crews(night, standing):
                self.assertIn(crew, crews(night, after(night, standing, crew)))


class AfterTest(Case):
    """Point 5: the standing behind a crossing, and NoCrew."""

    @each_night()
    def test_each_crew_that_is_let(self, given, night):
        for standing in given.good_ones():
            for crew in given.let(standing):
                told = after(night, standing, crew)
                self.assertEqual(told, given.behind(standing, crew), (standing, crew))
                self.is_standing(told)
                self.assertIs(good(night, told), True)

    def test_over_and_back(self):
        night = Given([(1, True)] * 4, 3, []).night()
        self.assertEqual(after(night, ((0, 1, 2, 3), 0), (1,)), ((0, 2, 3), 1))
        self.assertEqual(after(night, ((0, 1, 2, 3), 0), (0, 3)), ((1, 2), 1))
        self.assertEqual(after(night, ((0, 3), 0), (0, 3)), ((), 1))
        self.assertEqual(after(night, ((3,), 1), (0, 2)), ((0, 2, 3), 0))
        self.assertEqual(after(night, ((0, 2), 1), (1, 3)), ((0, 1, 2, 3), 0))
        self.assertEqual(after(night, ((), 1), (0, 1, 3)), ((0, 1, 3), 0))

    @each_night()
    def test_every_other_group_is_refused(self, given, night):
        for standing in given.good_ones():
            for crew in all_groups(given.count()):
                if not given.is_let(standing, crew):
                    self.refused(NoCrew, after, night, standing, crew)

    @each_night(most=3)
    def test_every_other_tuple_is_refused(self, given, night):
        for standing in given.good_ones():
            for crew in tuples_around(given.count(), 4 if given.count() < 3 else 3):
                if given.is_let(standing, crew):
                    self.assertEqual(after(night, standing, crew), given.behind(standing, crew))
                else:
                    self.refused(NoCrew, after, night, standing, crew)

    def no_crews(self, given, standing, wrong):
        night = given.night()
        for crew in wrong:
            with self.subTest(standing=standing, crew=crew):
                self.refused(NoCrew, after, night, standing, crew)

    def test_no_crews(self):
        things = [(1, True)] * 4
        for standing in (((0, 1, 2, 3), 0), ((), 1)):
            self.no_crews(Given(things, 2, []), standing, [
                (), (0, 1, 2), (0, 1, 2, 3), (0, 0), (2, 2), (1, 0), (3, 2), (4,), (-1,), (0, 4), (-1, 0), (100,)])
            self.no_crews(Given(things, 1, []), standing, [(), (0, 1), (0, 0), (4,)])
            self.no_crews(Given(things, 3, []), standing, [
                (0, 1, 2, 3), (0, 0, 1), (0, 1, 1), (2, 1, 0), (0, 2, 1), (0, 1, 4), (-1, 0, 1)])

    def test_crew_of_many_more_than_there_is_room(self):
        self.no_crews(Given([(1, True)] * 6, 3, []), ((0, 1, 2, 3, 4, 5), 0), [
            (0, 1, 2, 3), (0, 1, 2, 3, 4, 5), tuple(range(20)), (0,) * 20])

    def test_on_the_other_bank(self):
        given = Given([(1, True)] * 4, 2, [])
        self.no_crews(given, ((0, 1), 0), [(2,), (3,), (2, 3), (0, 2), (1, 3)])
        self.no_crews(given, ((0, 1), 1), [(0,), (1,), (0, 1), (0, 2), (1, 3)])

    def test_without_a_rower(self):
        given = Given([(1, False), (1, True), (1, False)], 3, [])
        self.no_crews(given, ((0, 1, 2), 0), [(0,), (2,), (0, 2)])
        self.no_crews(given, ((), 1), [(0,), (2,), (0, 2)])

    def test_the_standing_behind_is_not_good(self):
        self.no_crews(WOLF_NIGHT, ((0, 1, 2, 3), 0), [(0,), (0, 1), (0, 3)])
        self.no_crews(WOLF_NIGHT, ((), 1), [(0,), (0, 1), (0, 3)])
        self.no_crews(WOLF_NIGHT, ((0, 1, 2), 0), [(0,)])


class MinutesTest(Case):
    """Point 5: a crossing takes as long as the slowest."""

    @each_night()
    def test_any_group_of_at_least_one(self, given, night):
        for group in all_groups(given.count()):
            if group:
                told = minutes(night, group)
                self.assertIs(type(told), int)
                self.assertEqual(told, given.lasting(group), group)

    def test_the_slowest_in_each_place(self):
        night = Given([(7, True), (3, False), (SLOWEST, True), (1, False), (5, True)], 1, []).night()
        self.assertEqual(minutes(night, (0,)), 7)
        self.assertEqual(minutes(night, (3,)), 1)
        self.assertEqual(minutes(night, (0, 1, 3)), 7)
        self.assertEqual(minutes(night, (1, 4)), 5)
        self.assertEqual(minutes(night, (1, 2, 3)), SLOWEST)
        self.assertEqual(minutes(night, (0, 1, 2, 3, 4)), SLOWEST)

    def test_neither_room_nor_rowers_nor_peace_are_asked(self):
        night = Given([(4, False), (9, False), (2, False)], 1, [(0, 1, -1)]).night()
        self.assertEqual(minutes(night, (0, 1, 2)), 9)
        self.assertEqual(minutes(night, (0, 2)), 4)


if __name__ == "__main__":
    unittest.main()
