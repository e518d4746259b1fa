"""Crossings: which standings are good, which crews are let, and where they lead."""

from ferrynight.errors import BadStart, NoCrew, NoStanding
from ferrynight.night import is_thing

SIDES = (0, 1)


def rises(group):
    return all([one < other for one, other in zip(group, group[1:])])


def is_standing(night, standing):
    group = standing[0]
    count = len(night.things())
    return standing[1] in SIDES and rises(group) and all([is_thing(thing, count) for thing in group])


def other_bank(night, group):
    return tuple([thing for thing in range(len(night.things())) if thing not in group])


def is_good(night, standing):
    return night.peace(standing[0]) and night.peace(other_bank(night, standing[0]))


def check_standing(night, standing):
    if not is_standing(night, standing):
        raise NoStanding("that is no standing of the night")


def check_start(night, standing):
    check_standing(night, standing)
    if not is_good(night, standing):
        raise BadStart("from a standing that is not good nothing goes")


def good(night, standing):
    check_standing(night, standing)
    return is_good(night, standing)


def groups_of(bank):
    # Each thing is put behind lower ones alone, so a bank by rising numbers has rising groups.
    groups = [()]
    for thing in bank:
        groups = groups + [group + (thing,) for group in groups]
    return groups


def bank_of_boat(night, standing):
    if standing[1] == 0:
        return standing[0]
    return other_bank(night, standing[0])


def is_manned(night, crew):
    things = night.things()
    return 1 <= len(crew) <= night.room() and any([things[thing][1] for thing in crew])


# Whether the crossing is let is not asked here: crews asks it of the standing that this gives.
def crossed(standing, crew):
    if standing[1] == 0:
        return (tuple([thing for thing in standing[0] if thing not in crew]), 1)
    return (tuple(sorted(standing[0] + crew)), 0)


def crews(night, standing):
    check_start(night, standing)
    manned = [crew for crew in groups_of(bank_of_boat(night, standing)) if is_manned(night, crew)]
    return sorted([crew for crew in manned if is_good(night, crossed(standing, crew))])


def after(night, standing, crew):
    if crew not in crews(night, standing):
        raise NoCrew("that crew is not let to cross")
    return crossed(standing, crew)


def minutes(night, crew):
    things = night.things()
    return max([things[thing][0] for thing in crew])
