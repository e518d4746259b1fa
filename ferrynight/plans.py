"""Plans: how long they take, the fewest minutes of one, and where there is none."""

from ferrynight.crossing import SIDES, check_start, crews, crossed, groups_of, is_good, minutes


def takes(night, standing, plan):
    check_start(night, standing)
    here = standing
    total = 0
    for crew in plan:
        if crew not in crews(night, here):
            return None
        here = crossed(here, crew)
        total += minutes(night, crew)
    return total if here == night.ends() else None


def by_side(standing):
    return (standing[1], standing[0])


def good_standings(night):
    standings = []
    for group in groups_of(night.begins()[0]):
        standings.extend([(group, side) for side in SIDES])
    return sorted([standing for standing in standings if is_good(night, standing)], key=by_side)


# Made once for all good standings, since the heights are found by going over them many times.
def all_crossings(night):
    crossings = {}
    for standing in good_standings(night):
        let = crews(night, standing)
        crossings[standing] = [(crew, minutes(night, crew), crossed(standing, crew)) for crew in let]
    return crossings


# A crossing to a standing from which no plan is known begins none.
def begun_by(ways, fewest):
    return [(lasts + fewest[behind], crew, behind) for crew, lasts, behind in ways if behind in fewest]


def with_one_more(crossings, fewest):
    longer = dict(fewest)
    for standing, ways in crossings.items():
        totals = [total for total, crew, behind in begun_by(ways, fewest)]
        if standing in fewest:
            totals.append(fewest[standing])
        if totals:
            longer[standing] = min(totals)
    return longer


# Each round lets plans be one crossing longer. When a round changes nothing, no later one would,
# and the fewest minutes are found. Standings without a plan are left out.
def fewest_minutes(crossings, end):
    fewest = {}
    longer = {end: 0} if end in crossings else {}
    while longer != fewest:
        fewest = longer
        longer = with_one_more(crossings, fewest)
    return fewest


def heights(night):
    crossings = all_crossings(night)
    fewest = fewest_minutes(crossings, night.ends())
    return [(standing, fewest.get(standing)) for standing in crossings]


# Every crossing takes a minute at least, so the fewest minutes fall with each one and the end comes.
def plan_from(crossings, fewest, standing, end):
    plan = []
    here = standing
    while here != end:
        best = min(begun_by(crossings[here], fewest))
        plan.append(best[1])
        here = best[2]
    return plan


def come_to(crossings, standing):
    found = [standing]
    place = 0
    while place < len(found):
        here = found[place]
        for crew, lasts, behind in crossings[here]:
            if behind not in found:
                found.append(behind)
        place += 1
    return sorted(found, key=by_side)


def shortest(night, standing):
    check_start(night, standing)
    crossings = all_crossings(night)
    fewest = fewest_minutes(crossings, night.ends())
    if standing in fewest:
        return ("plan", plan_from(crossings, fewest, standing, night.ends()))
    return ("shut", come_to(crossings, standing))
