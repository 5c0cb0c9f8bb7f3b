"""Whether two programs are the same but for the names that hold within each of them alone."""

from cellnames.changes import uses_bound_to, write_name
from cellnames.scopes import OUTERMOST_BLOCK

# A byte that stands in no name.
MARK = 0


# Writes marks into the trees of both cells, which are sound.
def are_alike(first, second):
    mark_names_within(first.walk)
    mark_names_within(second.walk)
    return tree_traits(first.walk) == tree_traits(second.walk)


def mark_names_within(walk):
    for number, place in enumerate(walk.places):
        if place.home != OUTERMOST_BLOCK:
            write_name([place], uses_bound_to(walk, number), (MARK, number))


# A list in place of the tree: as each node tells how many others it is made of, and those come
# straight behind it, no two trees have the same list.
def tree_traits(walk):
    return [node_traits(visit.node) for visit in walk.visits]


def node_traits(node):
    sizes = tuple([len(block) for block in node.blocks])
    return (node.kind, node.name, tuple(node.names), node.value, len(node.parts), sizes)
