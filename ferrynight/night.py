"""Nights: the things to be brought over, the boat's room, and the quarrels."""

from ferrynight.errors import BadQuarrel, BadRoom, BadThing

MOST_THINGS = 6
MOST_MINUTES = 1000000000
MOST_ROOM = 3
MOST_QUARRELS = 30
NO_KEEPER = -1


def check_things(things):
    if not 1 <= len(things) <= MOST_THINGS:
        raise BadThing("a night has 1 to 6 things")
    for pace, rows in things:
        if not 1 <= pace <= MOST_MINUTES:
            raise BadThing("a pace is from 1 to 10 ** 9 minutes")


def check_room(room):
    if not 1 <= room <= MOST_ROOM:
        raise BadRoom("a boat has room for 1 to 3 things")


def is_thing(number, count):
    return 0 <= number < count


def is_pair(one, other, count):
    return is_thing(one, count) and is_thing(other, count) and one != other


def is_keeper(keeper, one, other, count):
    if keeper == NO_KEEPER:
        return True
    return is_thing(keeper, count) and keeper != one and keeper != other


def check_quarrels(quarrels, count):
    if len(quarrels) > MOST_QUARRELS:
        raise BadQuarrel("a night has at most 30 quarrels")
    for one, other, keeper in quarrels:
        if not is_pair(one, other, count):
            raise BadQuarrel("a quarrel is between two unlike things of the night")
        if not is_keeper(keeper, one, other, count):
            raise BadQuarrel("a keeper is a third thing of the night, or -1")


class Night:
    def __init__(self, things, room, quarrels):
        check_things(things)
        check_room(room)
        check_quarrels(quarrels, len(things))
        # Kept as tuples of its own: the lists that were handed in may be changed later.
        self.kept_things = tuple(things)
        self.kept_room = room
        self.kept_quarrels = tuple(quarrels)

    def things(self):
        return list(self.kept_things)

    def room(self):
        return self.kept_room

    def quarrels(self):
        return list(self.kept_quarrels)

    def begins(self):
        return (tuple(range(len(self.kept_things))), 0)

    def ends(self):
        return ((), 1)

    def peace(self, group):
        for one, other, keeper in self.kept_quarrels:
            # NO_KEEPER is in no group, so a quarrel without a keeper needs no case of its own.
            if one in group and other in group and keeper not in group:
                return False
        return True
