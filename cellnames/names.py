"""The calls: each takes a cell's text and answers a list of whole numbers."""

from cellnames.cells import MOST_BYTES, good_cell, sound_cell
from cellnames.changes import keeps_bindings, made_or_read, outer_places, outer_uses, write_name
from cellnames.forms import program_form
from cellnames.scopes import FREE, OUTERMOST_BLOCK, captured_uses
from cellnames.tokens import is_name

NO_SUCH = -4
NO_NEW_NAME = -5
BOUND_ANEW = -6
FORM_TOO_LONG = -7


def faults(text):
    cell = good_cell(text)
    if cell.refusal < 0:
        return [cell.refusal]
    answer = [len(cell.pairs)]
    for pair in cell.pairs:
        answer.extend(pair)
    return answer


def made(text):
    cell = sound_cell(text)
    if cell.refusal < 0:
        return [cell.refusal]
    places = [place for place in cell.walk.places if place.home == OUTERMOST_BLOCK]
    answer = [len(places)]
    for place in places:
        answer.extend([place.kind, place.statement])
        answer.extend(counted(place.name))
    return answer


def reads(text):
    cell = sound_cell(text)
    if cell.refusal < 0:
        return [cell.refusal]
    return told_sorted([use.name for use in cell.walk.uses if use.bound == FREE])


def bindings(text):
    cell = sound_cell(text)
    if cell.refusal < 0:
        return [cell.refusal]
    answer = [len(cell.walk.places)]
    for place in cell.walk.places:
        outermost = 1 if place.home == OUTERMOST_BLOCK else 0
        answer.extend([place.kind, place.level, outermost, place.used])
        answer.extend(counted(place.name))
    return answer


def uses(text):
    cell = sound_cell(text)
    if cell.refusal < 0:
        return [cell.refusal]
    answer = [len(cell.walk.uses)]
    for use in cell.walk.uses:
        answer.extend([use.bound, use.of_set, use.level])
        answer.extend(counted(use.name))
    return answer


def captured(k, text):
    cell = sound_cell(text)
    if cell.refusal < 0:
        return [cell.refusal]
    functions = cell.walk.functions
    if not 0 <= k < len(functions):
        return [NO_SUCH]
    return told_sorted([use.name for use in captured_uses(cell.walk, functions[k])])


def rename(text, old, new):
    cell = sound_cell(text)
    if cell.refusal < 0:
        return [cell.refusal]
    old_name = tuple(old)
    new_name = tuple(new)
    if not made_or_read(cell.walk, old_name):
        return [NO_SUCH]
    if not is_name(new_name) or made_or_read(cell.walk, new_name):
        return [NO_NEW_NAME]
    return told_change(cell, outer_places(cell.walk, old_name), outer_uses(cell.walk, old_name), new_name)


def local(k, text, new):
    cell = sound_cell(text)
    if cell.refusal < 0:
        return [cell.refusal]
    places = cell.walk.places
    if not 0 <= k < len(places) or places[k].home == OUTERMOST_BLOCK:
        return [NO_SUCH]
    new_name = tuple(new)
    if not is_name(new_name):
        return [NO_NEW_NAME]
    bound_there = [use for use in cell.walk.uses if use.bound == k]
    return told_change(cell, [places[k]], bound_there, new_name)


def told_change(cell, places, changed_uses, new_name):
    write_name(places, changed_uses, new_name)
    if not keeps_bindings(cell):
        return [BOUND_ANEW]
    form = program_form(cell.statements)
    if len(form) > MOST_BYTES:
        return [FORM_TOO_LONG]
    return counted(form)


def counted(given):
    return [len(given)] + list(given)


def told_sorted(names):
    once = sorted(set(names))
    answer = [len(once)]
    for name in once:
        answer.extend(counted(name))
    return answer
