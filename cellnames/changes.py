"""Names changed in a cell's tree, and whether each use is then bound as it was before."""

from cellnames.scopes import FREE, OUTERMOST_BLOCK, PARAMETER, walk_program
from cellnames.soundness import fault_pairs


def outer_places(walk, name):
    return [place for place in walk.places if place.home == OUTERMOST_BLOCK and place.name == name]


# The uses that other cells have to do with: free ones and those of a name that the program makes.
def outer_uses(walk, name):
    return [use for use in walk.uses if use.name == name and is_outer(walk, use)]


def is_outer(walk, use):
    return use.bound == FREE or walk.places[use.bound].home == OUTERMOST_BLOCK


def uses_bound_to(walk, number):
    return [use for use in walk.uses if use.bound == number]


def made_or_read(walk, name):
    return len(outer_places(walk, name)) > 0 or len(outer_uses(walk, name)) > 0


# Writes into the tree of a sound cell; what its walk says is still of the time before.
def write_name(places, uses, new):
    for place in places:
        write_at_place(place, new)
    for use in uses:
        node = use.node
        node.name = new


def write_at_place(place, new):
    node = place.node
    if place.kind == PARAMETER:
        # No other one has the same name: the function would have fault 2.
        node.names = [new if name == place.name else name for name in node.names]
    else:
        node.name = new


# To be asked behind write_name.
def keeps_bindings(cell):
    after = walk_program(cell.statements)
    bound_before = [use.bound for use in cell.walk.uses]
    bound_after = [use.bound for use in after.uses]
    return bound_before == bound_after and len(fault_pairs(after)) == 0
