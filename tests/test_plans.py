"""Points 7 to 9, and the interface, section ferrynight/plans.py."""

import itertools
import unittest

from ferrynight.crossing import after, crews, good, minutes
from ferrynight.plans import heights, shortest, takes
from helper import NIGHTS, SLOWEST, Case, Given, all_groups, each_night

WOLF_PLAN = [(0, 2), (0,), (0, 1), (0, 2), (0, 3), (0,), (0, 2)]
TORCH_PLAN = [(0, 1), (0,), (2, 3), (1,), (0, 1)]
FEWER_CROSSINGS = [(0, 3), (3,), (2, 3), (2,), (1, 2)]
NEVER_LET = [(), (-1,), (9,), (0, 0), (1, 0), (0, 1, 2, 3), (0, 9), (-1, 0)]


class TakesTest(Case):
    """Point 7."""

    def test_plans(self):
        wolf, torch = NIGHTS["wolf, goat and cabbage"].night(), NIGHTS["torch"].night()
        self.assertEqual(takes(wolf, wolf.begins(), WOLF_PLAN), 12)
        self.assertEqual(takes(torch, torch.begins(), TORCH_PLAN), 17)
        self.assertEqual(takes(torch, torch.begins(), [(0, 3), (0,), (0, 2), (0,), (0, 1)]), 19)
        self.assertIs(type(takes(torch, torch.begins(), TORCH_PLAN)), int)

    def test_plan_from_the_middle(self):
        torch = NIGHTS["torch"].night()
        here = torch.begins()
        for done, left in enumerate((17, 15, 14, 4, 2)):
            self.assertEqual(takes(torch, here, TORCH_PLAN[done:]), left)
            here = after(torch, here, TORCH_PLAN[done])
        self.assertEqual(here, torch.ends())

    def test_plan_with_needless_crossings(self):
        torch = NIGHTS["torch"].night()
        self.assertEqual(takes(torch, torch.begins(), [(3,), (3,)] + TORCH_PLAN), 37)
        self.assertEqual(takes(torch, torch.begins(), [(3,), (3,)] * 200 + TORCH_PLAN), 4017)

    def test_through_the_end(self):
        torch = NIGHTS["torch"].night()
        self.assertEqual(takes(torch, torch.begins(), TORCH_PLAN + [(3,), (3,)]), 37)
        self.assertEqual(takes(torch, torch.begins(), TORCH_PLAN + [(0, 1), (0,), (0,), (0, 1)]), 17 + 2 + 1 + 1 + 2)
        self.assertEqual(takes(torch, torch.ends(), [(2,), (2,)]), 10)
        self.assertEqual(takes(torch, torch.ends(), [(2,), (2,), (0,), (0,)]), 12)

    def test_the_end_left_again(self):
        torch = NIGHTS["torch"].night()
        self.assertIsNone(takes(torch, torch.begins(), TORCH_PLAN + [(0,)]))
        self.assertIsNone(takes(torch, torch.begins(), TORCH_PLAN + [(3,), (3,), (1,)]))
        self.assertIsNone(takes(torch, torch.ends(), [(0,)]))

    def test_too_early(self):
        for name, plan in (("wolf, goat and cabbage", WOLF_PLAN), ("torch", TORCH_PLAN)):
            night = NIGHTS[name].night()
            for length in range(len(plan)):
                self.assertIsNone(takes(night, night.begins(), plan[:length]))

    @each_night()
    def test_empty_row(self, given, night):
        for standing in given.good_ones():
            told = takes(night, standing, [])
            if standing == ((), 1):
                self.assertEqual(told, 0)
                self.assertIs(type(told), int)
            else:
                self.assertIsNone(told, standing)

    def test_crew_that_is_not_let_in_any_place(self):
        for name, plan in (("wolf, goat and cabbage", WOLF_PLAN), ("torch", TORCH_PLAN)):
            given = NIGHTS[name]
            night = given.night()
            for place, wrong in itertools.product(range(len(plan) + 1), NEVER_LET):
                for row in (plan[:place] + [wrong] + plan[place:], plan[:place] + [wrong] + plan[place + 1:]):
                    self.assertIsNone(takes(night, night.begins(), row), row)

    def test_any_group_in_any_place(self):
        for name, plan in (("wolf, goat and cabbage", WOLF_PLAN), ("torch", TORCH_PLAN)):
            given = NIGHTS[name]
            night = given.night()
            for place, crew in itertools.product(range(len(plan)), all_groups(4)):
                row = plan[:place] + [crew] + plan[place + 1:]
                self.assertEqual(takes(night, night.begins(), row), given.taking(night.begins(), row), row)

    def test_crew_that_is_let_elsewhere(self):
        # The other bank holds nobody yet, and a row that passes over it would seem to end well.
        night = Given([(3, True), (8, True)], 2, []).night()
        self.assertIsNone(takes(night, ((0, 1), 0), [(0, 1), (0,), (1,)]))
        self.assertIsNone(takes(night, ((0, 1), 0), [(0,), (1,)]))
        self.assertIsNone(takes(night, ((0, 1), 0), [(0, 1), (0, 1), (0,), (1,)]))

    @each_night(most=2)
    def test_every_row_of_small_nights(self, given, night):
        row_members = list(all_groups(given.count())) + [(-1,), (given.count(),), (0, 0), (1, 0)]
        for length in range(4):
            for row in itertools.product(row_members, repeat=length):
                for standing in given.good_ones():
                    told = takes(night, standing, list(row))
                    self.assertEqual(told, given.taking(standing, row), (standing, row))

    def test_large_paces(self):
        night = Given([(SLOWEST, True)] * 3, 2, []).night()
        self.assertEqual(takes(night, night.begins(), [(0, 1), (0,), (0, 2)]), 3 * SLOWEST)

    def test_the_row_stays_as_it_was(self):
        night = NIGHTS["torch"].night()
        for row in (TORCH_PLAN, TORCH_PLAN + [(0,)], [(9,)] + TORCH_PLAN, [(0,), ()], []):
            handed = list(row)
            first = takes(night, night.begins(), handed)
            self.assertEqual(handed, row)
            self.assertEqual(takes(night, night.begins(), handed), first)


class HeightsTest(Case):
    """Point 8."""

    @each_night()
    def test_against_another_way(self, given, night):
        self.assertEqual(heights(night), given.high())

    def test_one_that_rows(self):
        self.assertEqual(heights(Given([(4, True)], 1, []).night()), [
            (((), 0), None), (((0,), 0), 4), (((), 1), 0), (((0,), 1), None)])

    def test_one_that_sits(self):
        self.assertEqual(heights(Given([(4, False)], 1, []).night()), [
            (((), 0), None), (((0,), 0), None), (((), 1), 0), (((0,), 1), None)])

    def test_two_of_which_one_sits(self):
        self.assertEqual(heights(Given([(3, True), (8, False)], 2, []).night()), [
            (((), 0), None), (((0,), 0), 3), (((0, 1), 0), 8), (((1,), 0), None),
            (((), 1), 0), (((0,), 1), None), (((0, 1), 1), None), (((1,), 1), 11)])

    def test_known_nights(self):
        for name, height in (("wolf, goat and cabbage", 12), ("torch", 17), ("six, from fast to slow", 1000001052)):
            night = NIGHTS[name].night()
            self.assertEqual(dict(heights(night))[night.begins()], height)

    def test_the_fastest_need_not_row_every_time(self):
        # With 0 in the boat each time it would be 2 + 1 + 9 + 1 + 10 minutes.
        night = Given([(1, True), (2, True), (9, True), (10, True)], 2, []).night()
        self.assertEqual(dict(heights(night))[night.begins()], 2 + 1 + 10 + 2 + 2)

    def test_no_good_standing(self):
        self.assertEqual(heights(NIGHTS["six, every pair quarrels"].night()), [])

    def test_the_end_is_not_good(self):
        self.assertEqual(heights(Given([(3, True), (8, True)], 2, [(0, 1, -1)]).night()), [
            (((0,), 0), None), (((1,), 0), None), (((0,), 1), None), (((1,), 1), None)])

    @each_night()
    def test_kinds_and_which_standings_in_which_order(self, given, night):
        told = heights(night)
        self.assertIs(type(told), list)
        for row in told:
            self.assertIs(type(row), tuple)
            self.is_standing(row[0])
            self.assertIn(type(row[1]), (int, type(None)))
        keys = [(side, group) for (group, side), height in told]
        self.assertEqual(keys, sorted(set(keys)))
        self.assertEqual(
            {standing for standing, height in told},
            {standing for standing in given.standings() if good(night, standing)})

    @each_night()
    def test_the_end_and_no_other_has_nought(self, given, night):
        for standing, height in heights(night):
            self.assertEqual(height == 0, standing == night.ends())

    @each_night()
    def test_no_crossing_lowers_the_height_by_more_than_it_takes(self, given, night):
        height = dict(heights(night))
        for standing in height:
            for crew in crews(night, standing):
                behind = height[after(night, standing, crew)]
                if behind is not None:
                    self.assertIsNotNone(height[standing])
                    self.assertLessEqual(height[standing], minutes(night, crew) + behind)

    def test_large_paces(self):
        night = NIGHTS["six, all as slow as can be"].night()
        self.assertEqual(dict(heights(night))[night.begins()], 9 * SLOWEST)
        night = Given([(SLOWEST, True)], 3, []).night()
        self.assertEqual(dict(heights(night))[night.begins()], SLOWEST)

    @each_night()
    def test_told_again_behind_a_change(self, given, night):
        before = list(heights(night))
        for change in (list.clear, list.reverse, lambda told: told.append("more")):
            change(heights(night))
            self.assertEqual(heights(night), before)


class ShortestTest(Case):
    """Points 7 to 9: a plan of the fewest minutes, or the standings come to."""

    @each_night()
    def test_every_good_standing(self, given, night):
        for standing, height in given.high():
            told = shortest(night, standing)
            self.assertIs(type(told), tuple)
            self.assertEqual(len(told), 2)
            self.assertEqual(told[0], "shut" if height is None else "plan")
            self.assertIs(type(told[1]), list)
            if height is None:
                self.is_shut(given, night, standing, told[1])
            else:
                self.is_plan(night, standing, height, told[1])

    def is_plan(self, night, standing, height, plan):
        here, total = standing, 0
        for crew in plan:
            self.is_group(crew)
            self.assertIn(crew, crews(night, here))
            total += minutes(night, crew)
            here = after(night, here, crew)
        self.assertEqual(here, night.ends())
        self.assertEqual(total, height)
        self.assertEqual(takes(night, standing, plan), height)

    def is_shut(self, given, night, standing, told):
        self.assertEqual(told, given.reached(standing))
        self.assertIn(standing, told)
        self.assertNotIn(((), 1), told)
        keys = [(side, group) for group, side in told]
        self.assertEqual(keys, sorted(set(keys)))
        for each in told:
            self.is_standing(each)
            self.assertIs(good(night, each), True)
            for crew in crews(night, each):
                self.assertIn(after(night, each, crew), told)

    @each_night()
    def test_from_the_end(self, given, night):
        if given.is_good(((), 1)):
            self.assertEqual(shortest(night, ((), 1)), ("plan", []))

    def test_the_only_plan(self):
        night = Given([(3, True), (8, False)], 2, []).night()
        self.assertEqual(shortest(night, ((0, 1), 0)), ("plan", [(0, 1)]))
        self.assertEqual(shortest(night, ((0,), 0)), ("plan", [(0,)]))
        self.assertEqual(shortest(night, ((1,), 1)), ("plan", [(0,), (0, 1)]))

    def test_fewest_minutes_ahead_of_fewest_crossings(self):
        # The slow rower 2 could spare two crossings, but with 3 at the oars it is over sooner.
        night = Given([(1, False), (1, False), (50, True), (2, True)], 2, [(0, 1, 3), (2, 0, 3)]).night()
        self.assertEqual(takes(night, night.begins(), FEWER_CROSSINGS), 154)
        kind, plan = shortest(night, night.begins())
        self.assertEqual((kind, len(plan)), ("plan", 7))
        self.assertEqual(takes(night, night.begins(), plan), 6 * 2 + 50)

    def test_shut_told_in_full(self):
        def shut(given, standing, expected):
            self.assertEqual(shortest(given.night(), standing), ("shut", expected))

        shut(NIGHTS["one that sits"], ((0,), 0), [((0,), 0)])
        shut(NIGHTS["one that rows"], ((), 0), [((), 0)])
        shut(NIGHTS["one that rows"], ((0,), 1), [((0,), 1)])
        alone = NIGHTS["three, room for one"]
        shut(alone, ((0, 1, 2), 0), [((0, 1, 2), 0), ((0, 2), 1), ((1, 2), 1)])
        shut(alone, ((1, 2), 1), [((0, 1, 2), 0), ((0, 2), 1), ((1, 2), 1)])
        shut(alone, ((0, 1), 1), [((0, 1), 1)])
        parted = NIGHTS["two that quarrel"]
        shut(parted, ((0,), 0), [((0,), 0)])
        shut(parted, ((1,), 1), [((1,), 1)])

    def test_shut_where_the_end_is_not_good(self):
        night = Given([(1, True), (1, True), (1, True)], 2, [(0, 1, -1)]).night()
        self.assertEqual(shortest(night, ((0, 2), 0)), ("shut", [((0, 2), 0), ((0,), 1)]))
        self.assertEqual(shortest(night, ((0,), 1)), ("shut", [((0, 2), 0), ((0,), 1)]))


if __name__ == "__main__":
    unittest.main()
