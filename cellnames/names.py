"""The calls: each takes a cell's text and answers a list of whole numbers."""

from cellnames.cells import good_cell, sound_cell
from cellnames.scopes import FREE, OUTERMOST_BLOCK, captured_uses

NO_SUCH = -4


def faults(text):
    cell = good_cell(text)
    if cell.refusal < 0:
        return [cell.refusal]
    answer = [len(cell.pairs)]
    for pair in cell.pairs:
        answer.extend(pair)
    return answer


def made(text):
    cell = sound_cell(text)
    if cell.refusal < 0:
        return [cell.refusal]
    places = [place for place in cell.walk.places if place.home == OUTERMOST_BLOCK]
    answer = [len(places)]
    for place in places:
        answer.extend([place.kind, place.statement])
        answer.extend(told_name(place.name))
    return answer


def reads(text):
    cell = sound_cell(text)
    if cell.refusal < 0:
        return [cell.refusal]
    return told_sorted([use.name for use in cell.walk.uses if use.bound == FREE])


def bindings(text):
    cell = sound_cell(text)
    if cell.refusal < 0:
        return [cell.refusal]
    answer = [len(cell.walk.places)]
    for place in cell.walk.places:
        outermost = 1 if place.home == OUTERMOST_BLOCK else 0
        answer.extend([place.kind, place.level, outermost, place.used])
        answer.extend(told_name(place.name))
    return answer


def uses(text):
    cell = sound_cell(text)
    if cell.refusal < 0:
        return [cell.refusal]
    answer = [len(cell.walk.uses)]
    for use in cell.walk.uses:
        answer.extend([use.bound, use.of_set, use.level])
        answer.extend(told_name(use.name))
    return answer


def captured(k, text):
    cell = sound_cell(text)
    if cell.refusal < 0:
        return [cell.refusal]
    functions = cell.walk.functions
    if not 0 <= k < len(functions):
        return [NO_SUCH]
    return told_sorted([use.name for use in captured_uses(cell.walk, functions[k])])


def told_name(name):
    return [len(name)] + list(name)


def told_sorted(names):
    once = sorted(set(names))
    answer = [len(once)]
    for name in once:
        answer.extend(told_name(name))
    return answer
