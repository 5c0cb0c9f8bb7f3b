"""The binding places and the uses of a program, and what each use is bound to."""

LET = 0
SLIDER = 1
CHOICE = 2
FOR = 3
OWN_NAME = 4
PARAMETER = 5

MAKING = {"let": 0, "slider": 1, "choice": 2}

OUTERMOST_BLOCK = 0
FREE = -1


# node: the node in which the name is written.
# home: the number of the block in which it holds. It is the outermost block for outermost
#   lets, sliders and choices alone, as the other places hold in a block of their own statement.
# statement: the number of the outermost statement in which it stands.
# used: how many uses are bound to it.
class BindingPlace:
    def __init__(self, node, kind, name, level, home, statement):
        self.node = node
        self.kind = kind
        self.name = name
        self.level = level
        self.home = home
        self.statement = statement
        self.used = 0


# node: the node in which the name is written.
# bound: the number of the binding place that it's bound to, or FREE.
# of_set: 1 if it's the name of a set, else 0.
class Use:
    def __init__(self, node, bound, of_set, level, statement):
        self.node = node
        self.bound = bound
        self.of_set = of_set
        self.level = level
        self.name = node.name
        self.statement = statement


# A statement or an expression, with where it stands.
class Visit:
    def __init__(self, node, level, statement):
        self.node = node
        self.level = level
        self.statement = statement


# A function's binding places and uses, by their numbers: from the first on to before the end.
# They follow one another without a gap, as the function's own text does.
class FunctionSpan:
    def __init__(self, first_place, first_use):
        self.first_place = first_place
        self.first_use = first_use
        self.place_end = first_place
        self.use_end = first_use


# places, uses, functions, visits: what was met, in the order of the text.
# holding: the numbers of the binding places that hold here, the last begun at the end.
class Walk:
    def __init__(self):
        self.places = []
        self.uses = []
        self.functions = []
        self.visits = []
        self.holding = []
        self.blocks_met = 1
        self.level = 0
        self.statement = 0


# Calls stand within one another no deeper than the tree, which is at most 40 deep.
def walk_program(statements):
    walk = Walk()
    for number, node in enumerate(statements):
        walk.statement = number
        walk_node(walk, node, OUTERMOST_BLOCK)
    return walk


# home is the number of the block in which the node stands.
def walk_node(walk, node, home):
    walk.visits.append(Visit(node, walk.level, walk.statement))
    if node.kind in MAKING:
        walk_making(walk, node, home)
    elif node.kind == "for":
        walk_for(walk, node, home)
    elif node.kind == "fn":
        walk_function(walk, node)
    else:
        walk_other(walk, node, home)


def walk_making(walk, node, home):
    number = add_place(walk, node, MAKING[node.kind], node.name, home)
    walk_parts(walk, node, home)
    walk.holding.append(number)


def walk_for(walk, node, home):
    block = new_block(walk)
    number = add_place(walk, node, FOR, node.name, block)
    walk_parts(walk, node, home)
    walk_block(walk, node.blocks[0], block, [number])


def walk_function(walk, node):
    span = FunctionSpan(len(walk.places), len(walk.uses))
    walk.functions.append(span)
    block = new_block(walk)
    walk.level += 1
    numbers = []
    if node.name is not None:
        numbers.append(add_place(walk, node, OWN_NAME, node.name, block))
    for name in node.names:
        numbers.append(add_place(walk, node, PARAMETER, name, block))
    walk_block(walk, node.blocks[0], block, numbers)
    walk.level -= 1
    span.place_end = len(walk.places)
    span.use_end = len(walk.uses)


def walk_other(walk, node, home):
    if node.kind in ("name", "set"):
        add_use(walk, node)
    walk_parts(walk, node, home)
    for statements in node.blocks:
        walk_block(walk, statements, new_block(walk), [])


def walk_parts(walk, node, home):
    for part in node.parts:
        walk_node(walk, part, home)


# numbers are those of the binding places whose hold begins with the block.
def walk_block(walk, statements, block, numbers):
    held_before = len(walk.holding)
    walk.holding.extend(numbers)
    for node in statements:
        walk_node(walk, node, block)
    walk.holding = walk.holding[:held_before]


def new_block(walk):
    walk.blocks_met += 1
    return walk.blocks_met - 1


def add_place(walk, node, kind, name, home):
    walk.places.append(BindingPlace(node, kind, name, walk.level, home, walk.statement))
    return len(walk.places) - 1


def add_use(walk, node):
    bound = nearest(walk, node.name)
    if bound != FREE:
        place = walk.places[bound]
        place.used += 1
    of_set = 1 if node.kind == "set" else 0
    walk.uses.append(Use(node, bound, of_set, walk.level, walk.statement))


def nearest(walk, name):
    for number in reversed(walk.holding):
        if walk.places[number].name == name:
            return number
    return FREE


def captured_uses(walk, span):
    uses = walk.uses[span.first_use:span.use_end]
    return [use for use in uses if not span.first_place <= use.bound < span.place_end]


# Whether, in a sound program, a set in an outermost statement from number k on is bound to a place
# in one below k. That is an outermost let's: others that may be set hold in their statement alone.
def sets_across(walk, k):
    sets = [use for use in walk.uses if use.of_set == 1 and use.statement >= k]
    return any([walk.places[use.bound].statement < k for use in sets])
