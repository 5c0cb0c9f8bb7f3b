"""The calls: each takes a cell's text, or two cells' texts, and answers a list of whole numbers."""

from cellnames.cells import MOST_BYTES, first_refusal, good_cell, sound_cell
from cellnames.changes import keeps_bindings, made_or_read, outer_places, outer_uses, uses_bound_to, write_name
from cellnames.forms import program_form
from cellnames.sameness import are_alike
from cellnames.scopes import FREE, OUTERMOST_BLOCK, captured_uses, sets_across
from cellnames.tokens import is_name

NO_SUCH = -4
NO_NEW_NAME = -5
BOUND_ANEW = -6
SET_PARTED = -6
FORM_TOO_LONG = -7


def faults(text):
    cell = good_cell(text)
    if cell.refusal < 0:
        return [cell.refusal]
    answer = [len(cell.pairs)]
    for pair in cell.pairs:
        answer.extend(pair)
    return answer


def made(text):
    cell = sound_cell(text)
    if cell.refusal < 0:
        return [cell.refusal]
    places = [place for place in cell.walk.places if place.home == OUTERMOST_BLOCK]
    answer = [len(places)]
    for place in places:
        answer.extend([place.kind, place.statement])
        answer.extend(counted(place.name))
    return answer


def reads(text):
    cell = sound_cell(text)
    if cell.refusal < 0:
        return [cell.refusal]
    return told_sorted([use.name for use in cell.walk.uses if use.bound == FREE])


def bindings(text):
    cell = sound_cell(text)
    if cell.refusal < 0:
        return [cell.refusal]
    answer = [len(cell.walk.places)]
    for place in cell.walk.places:
        outermost = 1 if place.home == OUTERMOST_BLOCK else 0
        answer.extend([place.kind, place.level, outermost, place.used])
        answer.extend(counted(place.name))
    return answer


def uses(text):
    cell = sound_cell(text)
    if cell.refusal < 0:
        return [cell.refusal]
    answer = [len(cell.walk.uses)]
    for use in cell.walk.uses:
        answer.extend([use.bound, use.of_set, use.level])
        answer.extend(counted(use.name))
    return answer


def captured(k, text):
    cell = sound_cell(text)
    if cell.refusal < 0:
        return [cell.refusal]
    functions = cell.walk.functions
    if not 0 <= k < len(functions):
        return [NO_SUCH]
    return told_sorted([use.name for use in captured_uses(cell.walk, functions[k])])


def rename(text, old, new):
    cell = sound_cell(text)
    if cell.refusal < 0:
        return [cell.refusal]
    old_name = tuple(old)
    new_name = tuple(new)
    if not made_or_read(cell.walk, old_name):
        return [NO_SUCH]
    if not is_name(new_name) or made_or_read(cell.walk, new_name):
        return [NO_NEW_NAME]
    return told_change(cell, outer_places(cell.walk, old_name), outer_uses(cell.walk, old_name), new_name)


def local(k, text, new):
    cell = sound_cell(text)
    if cell.refusal < 0:
        return [cell.refusal]
    places = cell.walk.places
    if not 0 <= k < len(places) or places[k].home == OUTERMOST_BLOCK:
        return [NO_SUCH]
    new_name = tuple(new)
    if not is_name(new_name):
        return [NO_NEW_NAME]
    return told_change(cell, [places[k]], uses_bound_to(cell.walk, k), new_name)


def told_change(cell, places, changed_uses, new_name):
    write_name(places, changed_uses, new_name)
    if not keeps_bindings(cell):
        return [BOUND_ANEW]
    form = program_form(cell.statements)
    if len(form) > MOST_BYTES:
        return [FORM_TOO_LONG]
    return counted(form)


def alike(a, b):
    first = sound_cell(a)
    second = sound_cell(b)
    refusal = first_refusal([first, second])
    if refusal < 0:
        return [refusal]
    return [1 if are_alike(first, second) else 0]


def split(k, text):
    cell = sound_cell(text)
    if cell.refusal < 0:
        return [cell.refusal]
    if not 0 <= k <= len(cell.statements):
        return [NO_SUCH]
    if sets_across(cell.walk, k):
        return [SET_PARTED]
    return counted(program_form(cell.statements[:k])) + counted(program_form(cell.statements[k:]))


def draws(text):
    cell = sound_cell(text)
    if cell.refusal < 0:
        return [cell.refusal]
    return [1 if any([visit.node.kind == "roll" for visit in cell.walk.visits]) else 0]


def counted(given):
    return [len(given)] + list(given)


def told_sorted(names):
    once = sorted(set(names))
    answer = [len(once)]
    for name in once:
        answer.extend(counted(name))
    return answer
