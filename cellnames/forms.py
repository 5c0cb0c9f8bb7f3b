"""The one form of a program: its bytes where nothing is left to the writer's choice."""

from cellnames.grammar import STRENGTHS
from cellnames.tokens import spelled

# The strengths of expressions that aren't a sign or word between two parts; of all others, the strongest.
OTHER_STRENGTHS = {"?": 0, "not": 3, "minus": 8, "call": 9, "element": 9, "field": 9}
STRONGEST = 10

# By the strength of a sign or word between two parts: which strengths are wanted left and right of it.
WANTED_AROUND = {1: (1, 2), 2: (2, 3), 4: (5, 5), 5: (5, 6), 6: (6, 7), 7: (7, 8)}

WRITTEN_BEHIND_BACKSLASH = {92: 92, 34: 34, 10: 110}


# Calls stand within one another only as the tree's nodes do, which is at most 40 deep.
def program_form(statements):
    return between("\n", [statement_form(node) for node in statements])


# The pieces one behind the other; each is a text or the bytes themselves.
def written(pieces):
    form = []
    for piece in pieces:
        form.extend(spelled(piece) if isinstance(piece, str) else piece)
    return form


def between(gap, forms):
    pieces = []
    for form in forms:
        if len(pieces) > 0:
            pieces.append(gap)
        pieces.append(form)
    return written(pieces)


def statement_form(node):
    if node.kind == "slider":
        return slider_form(node)
    if node.kind == "choice":
        return choice_form(node)
    pieces = [node.kind, " "]
    if node.kind in ("let", "set"):
        pieces.extend([node.name, " = "])
    elif node.kind == "for":
        pieces.extend([node.name, " in "])
    pieces.append(expression_form(node.parts[0], 0))
    if len(node.blocks) == 0:
        pieces.append(";")
    else:
        blocks = [block_form(block) for block in node.blocks]
        pieces.extend([" ", between(" else ", blocks)])
    return written(pieces)


def slider_form(node):
    first = str(node.value[0])
    least = str(node.value[1])
    most = str(node.value[2])
    return written(["slider ", node.name, " = ", first, " in ", least, ", ", most, ";"])


def choice_form(node):
    said = [quoted_form(one) for one in node.value[1]]
    return written(["choice ", node.name, " = ", str(node.value[0]), " in ", between(", ", said), ";"])


def block_form(statements):
    if len(statements) == 0:
        return written(["{}"])
    return written(["{ ", between(" ", [statement_form(node) for node in statements]), " }"])


def strength_of(node):
    if node.kind in STRENGTHS:
        return STRENGTHS[node.kind]
    return OTHER_STRENGTHS.get(node.kind, STRONGEST)


def expression_form(node, wanted):
    form = bare_form(node)
    if strength_of(node) < wanted:
        return written(["(", form, ")"])
    return form


def bare_form(node):
    if node.kind in STRENGTHS:
        return pair_form(node)
    if node.kind == "?":
        return condition_form(node)
    if node.kind == "not":
        return written(["not ", expression_form(node.parts[0], 4)])
    if node.kind == "minus":
        return written(["-", expression_form(node.parts[0], 9)])
    if node.kind in ("call", "element", "field"):
        return reached_form(node)
    return simple_form(node)


def pair_form(node):
    wanted = WANTED_AROUND[STRENGTHS[node.kind]]
    left = expression_form(node.parts[0], wanted[0])
    right = expression_form(node.parts[1], wanted[1])
    sign = [37] if node.kind == "mod" else node.kind
    return written([left, " ", sign, " ", right])


def condition_form(node):
    parts = [expression_form(part, 1) for part in node.parts]
    return written([parts[0], " ? ", parts[1], " : ", parts[2]])


def reached_form(node):
    left = expression_form(node.parts[0], 9)
    if node.kind == "field":
        return written([left, ".", node.name])
    inner = listed_form(node.parts[1:])
    if node.kind == "call":
        return written([left, "(", inner, ")"])
    return written([left, "[", inner, "]"])


def listed_form(parts):
    return between(", ", [expression_form(part, 0) for part in parts])


def simple_form(node):
    if node.kind == "name":
        return written([node.name])
    if node.kind == "number":
        return written([str(node.value)])
    if node.kind == "quoted":
        return quoted_form(node.value)
    if node.kind == "list":
        return written(["[", listed_form(node.parts), "]"])
    if node.kind == "record":
        return record_form(node)
    if node.kind == "fn":
        return function_form(node)
    if node.kind in ("yes", "no", "none"):
        return written([node.kind])
    return written([node.kind, "(", listed_form(node.parts), ")"])


def quoted_form(said):
    form = [34]
    for byte in said:
        if byte in WRITTEN_BEHIND_BACKSLASH:
            form.extend([92, WRITTEN_BEHIND_BACKSLASH[byte]])
        else:
            form.append(byte)
    form.append(34)
    return form


def record_form(node):
    if len(node.parts) == 0:
        return written(["(:)"])
    fields = []
    for name, part in zip(node.names, node.parts):
        fields.append(written([name, ": ", expression_form(part, 0)]))
    return written(["(", between(", ", fields), ")"])


def function_form(node):
    own_name = [] if node.name is None else node.name
    return written(["fn ", own_name, "(", between(", ", node.names), ") ", block_form(node.blocks[0])])
