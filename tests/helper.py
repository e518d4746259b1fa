"""What the tests share: nights, standings, and the document's points worked out a second way.

Nothing here calls the package but to make a Night: what it tells is looked at against this.
"""

import collections
import heapq
import itertools
import random
import unittest

from ferrynight.night import Night

SLOWEST = 10 ** 9


def things_of(count):
    return [(10 + number, number == 0) for number in range(count)]


def all_groups(count):
    for size in range(count + 1):
        yield from itertools.combinations(range(count), size)


class Given(collections.namedtuple("Given", "things room quarrels")):
    """The parts of a night, and what the points 3 to 9 say of them."""

    def night(self):
        return Night(list(self.things), self.room, list(self.quarrels))

    def count(self):
        return len(self.things)

    def begin(self):
        return (tuple(range(self.count())), 0)

    def standings(self):
        return [(group, side) for side in (0, 1) for group in sorted(all_groups(self.count()))]

    def peaceful(self, bank):
        return not any({one, other} <= bank and keeper not in bank for one, other, keeper in self.quarrels)

    def is_good(self, standing):
        bank = set(standing[0])
        return self.peaceful(bank) and self.peaceful(set(range(self.count())) - bank)

    def good_ones(self):
        return [standing for standing in self.standings() if self.is_good(standing)]

    def bad_ones(self):
        return [standing for standing in self.standings() if not self.is_good(standing)]

    def behind(self, standing, crew):
        # Whoever crosses changes the bank, whichever it was.
        return (tuple(sorted(set(standing[0]) ^ set(crew))), 1 - standing[1])

    def is_let(self, standing, crew):
        first = set(standing[0])
        bank = first if standing[1] == 0 else set(range(self.count())) - first
        return (
            0 < len(crew) <= self.room
            and crew == tuple(sorted(set(crew)))
            and set(crew) <= bank
            and any(self.things[thing][1] for thing in crew)
            and self.is_good(self.behind(standing, crew))
        )

    def let(self, standing):
        return sorted(crew for crew in all_groups(self.count()) if self.is_let(standing, crew))

    def lasting(self, crew):
        return sorted(self.things[thing][0] for thing in crew)[-1]

    def taking(self, standing, plan):
        total = 0
        for crew in plan:
            if not self.is_let(standing, crew):
                return None
            total += self.lasting(crew)
            standing = self.behind(standing, crew)
        return total if standing == ((), 1) else None

    def ways(self):
        for standing in self.good_ones():
            for crew in self.let(standing):
                yield standing, crew, self.behind(standing, crew)

    def high(self):
        """The heights, from the end against the crossings, the lowest one first."""
        against = collections.defaultdict(list)
        for standing, crew, behind in self.ways():
            against[behind].append((self.lasting(crew), standing))
        height = {}
        heap = [(0, ((), 1))] if self.is_good(((), 1)) else []
        while heap:
            total, standing = heapq.heappop(heap)
            if standing not in height:
                height[standing] = total
                for lasting, before in against[standing]:
                    heapq.heappush(heap, (total + lasting, before))
        return [(standing, height.get(standing)) for standing in self.good_ones()]

    def reached(self, standing):
        seen, rest = {standing}, [standing]
        while rest:
            here = rest.pop()
            for crew in self.let(here):
                behind = self.behind(here, crew)
                if behind not in seen:
                    seen.add(behind)
                    rest.append(behind)
        return sorted(seen, key=lambda each: (each[1], each[0]))


def by_chance(seed):
    """A night that is another one for each seed, and the same one for the same seed."""
    chance = random.Random(seed)
    count = chance.randint(1, 6)
    slow = chance.choice([3, 20, SLOWEST])
    things = [(chance.randint(1, slow), chance.random() < 0.6) for number in range(count)]
    quarrels = []
    for number in range(chance.randint(0, 4) if count > 1 else 0):
        one, other, keeper = chance.sample(range(count), 2) + [-1]
        thirds = [thing for thing in range(count) if thing not in (one, other)]
        if thirds and chance.random() < 0.8:
            keeper = chance.choice(thirds)
        quarrels.append((one, other, keeper))
    return Given(things, chance.randint(1, 3), quarrels)


EVERY_PAIR = [(one, other, -1) for one, other in itertools.permutations(range(6), 2)]

NIGHTS = {
    "one that rows": Given([(4, True)], 1, []),
    "one that sits": Given([(4, False)], 1, []),
    "two that row, room for one": Given([(3, True), (8, True)], 1, []),
    "two of which one sits": Given([(3, True), (8, False)], 2, []),
    "two that sit": Given([(3, False), (8, False)], 2, []),
    "two that quarrel": Given([(3, True), (8, True)], 2, [(0, 1, -1)]),
    "three that sit": Given([(1, False), (2, False), (3, False)], 3, []),
    "three, a keeper": Given([(2, True), (1, False), (4, True)], 2, [(0, 1, 2)]),
    "three, all in the boat": Given([(2, True), (9, False), (4, True)], 3, [(1, 2, 0), (0, 1, 2)]),
    "three, room for one": Given([(1, True), (2, True), (5, False)], 1, []),
    "wolf, goat and cabbage": Given([(1, True), (2, False), (2, False), (2, False)], 2, [(1, 2, 0), (2, 3, 0)]),
    "wolf, goat and cabbage, no quarrel kept": Given(
        [(1, True), (2, False), (2, False), (2, False)], 2, [(1, 2, -1), (2, 3, 0)]),
    "wolf, goat and cabbage, room for one": Given(
        [(1, True), (2, False), (2, False), (2, False)], 1, [(1, 2, 0), (2, 3, 0)]),
    "torch": Given([(1, True), (2, True), (5, True), (10, True)], 2, []),
    "torch, room for three": Given([(10, True), (1, False), (5, True), (2, False)], 3, [(0, 1, 3)]),
    "five": Given([(7, False), (1, True), (3, False), (3, True), (2, False)], 3, [(0, 2, 1), (2, 4, 3), (4, 0, 1)]),
    "six, no quarrel": Given([(6, True), (5, False), (4, True), (3, False), (2, True), (1, False)], 3, []),
    "six, all as slow as can be": Given([(SLOWEST, number < 2) for number in range(6)], 2, []),
    "six, from fast to slow": Given([(10 ** number, True) for number in range(5)] + [(SLOWEST, True)], 2, []),
    "six, three pairs": Given(
        [(2, True), (3, True), (4, True), (1, True), (5, False), (6, False)], 2,
        [(0, 4, 1), (0, 5, 2), (1, 3, 0), (1, 5, 2), (2, 3, 0), (2, 4, 1)]),
    "six, every pair quarrels": Given(things_of(6), 3, EVERY_PAIR),
    "six, room for one": Given([(1, True)] * 6, 1, [(0, 1, 2), (3, 4, 5)]),
}
NIGHTS.update((f"by chance {seed}", by_chance(seed)) for seed in range(40))


def no_standings(count):
    """Standings that are none of a night with so many things."""
    whole = tuple(range(count))
    wrong = [
        (-1,), (-2,), (count,), (count + 1,), (100,), (-1,) + whole, whole + (count,), whole + (100,),
        (0, 0), whole + (count - 1,), (0,) + whole, whole + whole,
        (0, count), (-1, 0), (0, -1), (count, 0),
    ]
    if count > 1:
        wrong += [(1, 0), whole[::-1], whole[1:] + (0,)]
    if count > 2:
        wrong += [(0, 2, 1), (1, 0, 2), (0, 1, 0), (0, 1, 1), (1, 2, 0), (2, 0)]
    for group in wrong:
        for side in (0, 1, 2, -1):
            yield (group, side)
    for side in (-1, -2, 2, 3, 10, 100):
        for group in all_groups(count):
            yield (group, side)


def each_night(most=6):
    """Makes a test of one night a test of every night of at most so many things."""
    def over_nights(check):
        def test(self):
            for name, given in NIGHTS.items():
                if given.count() <= most:
                    with self.subTest(night=name):
                        check(self, given, given.night())
        return test
    return over_nights


class Case(unittest.TestCase):
    def refused(self, error, call, *handed):
        with self.assertRaises(error) as caught:
            call(*handed)
        self.assertIs(type(caught.exception), error)

    def is_standing(self, told):
        self.assertIs(type(told), tuple)
        self.assertEqual(len(told), 2)
        self.is_group(told[0])
        self.assertIs(type(told[1]), int)

    def is_group(self, told):
        self.assertIs(type(told), tuple)
        self.assertLessEqual({type(thing) for thing in told}, {int})
