"""The faults of names in a program that was walked through."""

from cellnames.scopes import CHOICE, FREE, LET, OUTERMOST_BLOCK, OWN_NAME, PARAMETER, SLIDER


# The pairs of an outermost statement's number and a kind of fault that it has, in order.
def fault_pairs(walk):
    pairs = place_pairs(walk.places) + use_pairs(walk.uses, walk.places) + visit_pairs(walk.visits)
    return sorted(set(pairs))


def place_pairs(places):
    making = [place for place in places if place.kind in (LET, SLIDER, CHOICE)]
    parameters = [place for place in places if place.kind == PARAMETER]
    asking = [place for place in places if place.kind in (SLIDER, CHOICE)]
    pairs = [(place.statement, 1) for place in repeated(making)]
    pairs.extend([(place.statement, 2) for place in repeated(parameters)])
    pairs.extend([(place.statement, 6) for place in asking if place.home != OUTERMOST_BLOCK])
    return pairs


# Those that hold in the same block as one before them that has the same name.
def repeated(places):
    met = {}
    again = []
    for place in places:
        key = (place.home, place.name)
        if key in met:
            again.append(place)
        met[key] = True
    return again


def use_pairs(uses, places):
    return [(use.statement, 4) for use in uses if use.of_set == 1 and not may_be_set(use, places)]


def may_be_set(use, places):
    if use.bound == FREE:
        return False
    place = places[use.bound]
    return place.kind not in (SLIDER, CHOICE, OWN_NAME) and place.level == use.level


def visit_pairs(visits):
    pairs = []
    for visit in visits:
        kind = fault_by_itself(visit.node, visit.level)
        if kind > 0:
            pairs.append((visit.statement, kind))
    return pairs


# The fault that a node has whatever its names are bound to, 0 if it has none.
def fault_by_itself(node, level):
    if node.kind == "record" and len(set(node.names)) < len(node.names):
        return 3
    if node.kind == "give" and level == 0:
        return 5
    if node.kind == "slider" and not within_limits(node.value):
        return 7
    if node.kind == "choice" and node.value[0] >= len(node.value[1]):
        return 8
    return 0


def within_limits(numbers):
    return numbers[1] <= numbers[0] <= numbers[2]
