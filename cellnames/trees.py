"""The tree of a program, made of expressions and statements."""


# kind: of a statement its first word. Of an expression "name", "number", "quoted", "list",
#   "record", "call", "element", "field", "minus", "?", or else its own word or sign.
# parts: the expressions that stand in it itself, in the order of the text.
# blocks: its blocks, each a list of statements. They stand behind the parts in the text.
# name: of let, set, for, slider, choice, "name" and "field"; a function's own, None without.
# names: a function's parameters, or a record's field names, one for each of its parts.
#   parts, blocks and names are empty lists where None is given.
# value: a number; the bytes that a quoted text says; a slider's three numbers; a choice's
#   number and the tuple of what its quoted texts say.
class Node:
    def __init__(self, kind, parts=None, blocks=None, name=None, names=None, value=None):
        self.kind = kind
        self.parts = given_or_empty(parts)
        self.blocks = given_or_empty(blocks)
        self.name = name
        self.names = given_or_empty(names)
        self.value = value
        self.depth = 1 + deepest(self.parts, self.blocks)


def given_or_empty(given):
    return [] if given is None else given


# Each node keeps its depth, so that no chain, however long, has to be climbed down for it.
def deepest(parts, blocks):
    depth = program_depth(parts)
    for block in blocks:
        depth = max(depth, program_depth(block))
    return depth


def program_depth(nodes):
    return max([node.depth for node in nodes], default=0)
