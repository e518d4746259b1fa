"""Point 1 over the whole program, and the interface as it stands."""

import inspect
import itertools
import unittest

from ferrynight import crossing, errors, notes, plans
from ferrynight.night import Night
from helper import NIGHTS, Case

WOLF = ((1, True), (2, False), (2, False), (2, False))
QUARRELS = ((1, 2, 0), (2, 3, 0))
PLAN = ((0, 2), (0,), (0, 1), (0, 2), (0, 3), (0,), (0, 2))
SEVEN = ("BadThing", "BadRoom", "BadQuarrel", "NoStanding", "BadStart", "NoCrew", "BadNote")


def all_told(night):
    """All that the program tells of a night, each time asked anew."""
    standings = [standing for standing, height in plans.heights(night)]
    told = [night.things(), night.quarrels(), plans.heights(night)]
    told += [crossing.crews(night, standing) for standing in standings]
    told += [plans.shortest(night, standing) for standing in standings]
    told += [[night.room(), night.begins(), night.ends(), notes.shown(night)]]
    told += [[plans.takes(night, night.begins(), list(PLAN))]]
    return told


def lists_of(told):
    return [each if isinstance(each, list) else each[1] for each in told]


class OwnListsTest(Case):
    """Point 1."""

    def test_lists_handed_in_are_not_kept(self):
        things, quarrels, plan = list(WOLF), list(QUARRELS), list(PLAN)
        night = Night(things, 2, quarrels)
        before = all_told(night)
        self.assertEqual(plans.takes(night, night.begins(), plan), 12)
        things[0] = (9, False)
        things.append((1, True))
        quarrels.clear()
        plan.pop()
        self.assertEqual(all_told(night), before)

    def test_what_is_handed_in_is_not_changed(self):
        things, quarrels, plan = list(WOLF), list(QUARRELS), list(PLAN)
        night = Night(things, 2, quarrels)
        all_told(night)
        plans.takes(night, night.begins(), plan)
        plans.takes(night, ((0, 2), 0), plan)
        self.assertEqual((things, quarrels, plan), (list(WOLF), list(QUARRELS), list(PLAN)))

    def test_changed_lists_told_change_nothing(self):
        for name in ("wolf, goat and cabbage", "three, room for one", "two of which one sits", "two that quarrel"):
            given = NIGHTS[name]
            night = given.night()
            told = {}
            for turn in range(2):
                for standing in given.good_ones():
                    crews, (kind, row) = crossing.crews(night, standing), plans.shortest(night, standing)
                    now = (list(crews), kind, list(row))
                    self.assertEqual(told.setdefault(standing, now), now)
                    for each in (crews, row, night.things(), night.quarrels(), plans.heights(night)):
                        each.reverse()
                        each.append((9,))
                        each[0] = ()

    def test_no_two_lists_told_are_one(self):
        night = Night(list(WOLF), 2, list(QUARRELS))
        lists = lists_of(all_told(night)) + lists_of(all_told(night))
        for one, other in itertools.combinations(lists, 2):
            self.assertIsNot(one, other)

    def test_row_handed_in_is_not_told_again(self):
        night = Night(list(WOLF), 2, list(QUARRELS))
        told = plans.shortest(night, night.begins())[1]
        self.assertEqual(plans.takes(night, night.begins(), told), 12)
        told.clear()
        self.assertEqual(plans.takes(night, night.begins(), plans.shortest(night, night.begins())[1]), 12)

    def test_nights_do_not_hang_on_one_another(self):
        alone = [all_told(NIGHTS[name].night()) for name in ("torch", "wolf, goat and cabbage")]
        one, other = NIGHTS["torch"].night(), NIGHTS["wolf, goat and cabbage"].night()
        for turn in range(2):
            self.assertEqual([all_told(one), all_told(other)], alone)


class InterfaceTest(Case):
    def test_names_and_arguments(self):
        for module, name, arguments in (
            (crossing, "good", ["night", "standing"]),
            (crossing, "crews", ["night", "standing"]),
            (crossing, "after", ["night", "standing", "crew"]),
            (crossing, "minutes", ["night", "crew"]),
            (plans, "takes", ["night", "standing", "plan"]),
            (plans, "heights", ["night"]),
            (plans, "shortest", ["night", "standing"]),
            (notes, "shown", ["night"]),
            (notes, "read", ["text"]),
        ):
            parameters = inspect.signature(getattr(module, name)).parameters
            self.assertEqual(list(parameters), arguments, name)
            self.assertEqual({each.default for each in parameters.values()}, {inspect.Parameter.empty}, name)

    def test_called_by_the_names_of_the_arguments(self):
        night = Night(things=list(WOLF), room=2, quarrels=list(QUARRELS))
        start = night.begins()
        self.assertIs(crossing.good(night=night, standing=start), True)
        self.assertEqual(crossing.crews(night=night, standing=start), [(0, 2)])
        self.assertEqual(crossing.after(night=night, standing=start, crew=(0, 2)), ((1, 3), 1))
        self.assertEqual(crossing.minutes(night=night, crew=(0, 2)), 2)
        self.assertEqual(plans.takes(night=night, standing=start, plan=list(PLAN)), 12)
        self.assertEqual(dict(plans.heights(night=night))[start], 12)
        self.assertEqual(plans.shortest(night=night, standing=start)[0], "plan")
        self.assertEqual(notes.read(text=notes.shown(night=night)).room(), 2)

    def refusals(self):
        night = Night(list(WOLF), 2, list(QUARRELS))
        start, bad = night.begins(), ((1, 2), 1)
        yield "BadThing", lambda: Night([], 2, [])
        yield "BadRoom", lambda: Night(list(WOLF), 4, [])
        yield "BadQuarrel", lambda: Night(list(WOLF), 2, [(0, 0, -1)])
        yield "NoStanding", lambda: crossing.good(night, ((4,), 0))
        yield "NoStanding", lambda: crossing.crews(night, ((1, 0), 0))
        yield "NoStanding", lambda: crossing.after(night, ((), 2), (0,))
        yield "NoStanding", lambda: plans.takes(night, ((), 2), [])
        yield "NoStanding", lambda: plans.shortest(night, ((), -1))
        yield "BadStart", lambda: crossing.crews(night, bad)
        yield "BadStart", lambda: crossing.after(night, bad, (0,))
        yield "BadStart", lambda: plans.takes(night, bad, [])
        yield "BadStart", lambda: plans.shortest(night, bad)
        yield "NoCrew", lambda: crossing.after(night, start, (0,))
        yield "BadNote", lambda: notes.read("")
        yield "BadNote", lambda: notes.read("boat 4\nthing 1 rows\n")
        yield "BadNote", lambda: notes.read("boat 1\nthing 0 rows\n")
        yield "BadNote", lambda: notes.read("boat 1\nthing 1 rows\nquarrel 0 1 -\n")

    def test_each_refusal_is_of_its_own_class(self):
        seen = set()
        for name, call in self.refusals():
            with self.subTest(name):
                with self.assertRaises(errors.FerryError) as caught:
                    call()
                self.assertIs(type(caught.exception), getattr(errors, name))
                self.assertIsInstance(caught.exception, ValueError)
                over = [each for each in SEVEN if isinstance(caught.exception, getattr(errors, each))]
                self.assertEqual(over, [name])
                seen.add(name)
        self.assertEqual(seen, set(SEVEN))


if __name__ == "__main__":
    unittest.main()
