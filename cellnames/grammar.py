"""The grammar: a list of tokens read as a program's tree.

Calls stand within one another only as brackets do, and these were counted before.
"""

from cellnames.errors import NotGood
from cellnames.tokens import brackets_too_deep, cut_tokens
from cellnames.trees import Node, program_depth

MOST_DEPTH = 40

# The strengths are those of the one form.
STRENGTHS = {
    "or": 1, "and": 2,
    "==": 4, "!=": 4, "<": 4, "<=": 4, ">": 4, ">=": 4,
    "++": 5, "+": 6, "-": 6, "*": 7, "/": 7, "mod": 7,
}

PARTS_OF_WORDS = {"len": 1, "keys": 1, "text": 1, "num": 1, "roll": 1, "cut": 3, "with": 3}


class Cursor:
    def __init__(self, tokens):
        self.tokens = tokens
        self.place = 0

    # The kind of the token that stands so many tokens ahead, "end" behind the last one.
    def ahead(self, steps):
        if self.place + steps >= len(self.tokens):
            return "end"
        return self.tokens[self.place + steps].kind

    def sees(self, kind):
        return self.ahead(0) == kind

    def take(self, kind):
        if not self.sees(kind):
            raise NotGood()
        self.place += 1
        return self.tokens[self.place - 1].value

    def takes_if_seen(self, kind):
        seen = self.sees(kind)
        if seen:
            self.place += 1
        return seen


# Raises NotGood if the text, of at most 600 bytes, isn't good.
def read_program(text):
    tokens = cut_tokens(text)
    if brackets_too_deep(tokens):
        raise NotGood()
    cursor = Cursor(tokens)
    statements = read_statements(cursor, "end")
    if program_depth(statements) > MOST_DEPTH:
        raise NotGood()
    return statements


def read_statements(cursor, closing):
    statements = []
    while not cursor.sees(closing):
        statements.append(read_statement(cursor))
    return statements


def read_block(cursor):
    cursor.take("{")
    statements = read_statements(cursor, "}")
    cursor.take("}")
    return statements


def read_statement(cursor):
    kind = cursor.ahead(0)
    if kind in ("let", "set"):
        return read_let_or_set(cursor, kind)
    if kind in ("show", "table", "plot", "check", "do", "give"):
        return read_telling(cursor, kind)
    if kind == "if":
        return read_if(cursor)
    if kind == "while":
        return read_while(cursor)
    if kind == "for":
        return read_for(cursor)
    if kind == "slider":
        return read_slider(cursor)
    if kind == "choice":
        return read_choice(cursor)
    raise NotGood()


def read_let_or_set(cursor, kind):
    cursor.take(kind)
    name = cursor.take("name")
    cursor.take("=")
    expression = read_expression(cursor)
    cursor.take(";")
    return Node(kind, parts=[expression], name=name)


def read_telling(cursor, kind):
    cursor.take(kind)
    expression = read_expression(cursor)
    cursor.take(";")
    return Node(kind, parts=[expression])


def read_if(cursor):
    cursor.take("if")
    condition = read_expression(cursor)
    blocks = [read_block(cursor)]
    if cursor.takes_if_seen("else"):
        blocks.append(read_block(cursor))
    return Node("if", parts=[condition], blocks=blocks)


def read_while(cursor):
    cursor.take("while")
    condition = read_expression(cursor)
    return Node("while", parts=[condition], blocks=[read_block(cursor)])


def read_for(cursor):
    cursor.take("for")
    name = cursor.take("name")
    cursor.take("in")
    expression = read_expression(cursor)
    return Node("for", parts=[expression], blocks=[read_block(cursor)], name=name)


def read_slider(cursor):
    cursor.take("slider")
    name = cursor.take("name")
    cursor.take("=")
    first = read_whole(cursor)
    cursor.take("in")
    least = read_whole(cursor)
    cursor.take(",")
    most = read_whole(cursor)
    cursor.take(";")
    return Node("slider", name=name, value=(first, least, most))


def read_whole(cursor):
    if cursor.takes_if_seen("-"):
        return -cursor.take("number")
    return cursor.take("number")


def read_choice(cursor):
    cursor.take("choice")
    name = cursor.take("name")
    cursor.take("=")
    number = cursor.take("number")
    cursor.take("in")
    said = [cursor.take("quoted")]
    while cursor.takes_if_seen(","):
        said.append(cursor.take("quoted"))
    cursor.take(";")
    return Node("choice", name=name, value=(number, tuple(said)))


def read_expression(cursor):
    first = read_or(cursor)
    if not cursor.takes_if_seen("?"):
        return first
    second = read_or(cursor)
    cursor.take(":")
    return Node("?", parts=[first, second, read_or(cursor)])


def read_or(cursor):
    return read_chain(cursor, 1, 2, read_not)


def read_not(cursor):
    if cursor.takes_if_seen("not"):
        return Node("not", parts=[read_compared(cursor)])
    return read_compared(cursor)


def read_compared(cursor):
    left = read_joined(cursor)
    sign = cursor.ahead(0)
    if STRENGTHS.get(sign, 0) != 4:
        return left
    cursor.take(sign)
    return Node(sign, parts=[left, read_joined(cursor)])


def read_joined(cursor):
    return read_chain(cursor, 5, 7, read_signed)


# Several lines of the grammar at once, those whose signs have the strengths from weakest to
# strongest: what a stronger sign joins, or an equal one on the left, is joined first.
def read_chain(cursor, weakest, strongest, read_part):
    parts = [read_part(cursor)]
    signs = []
    sign = cursor.ahead(0)
    while weakest <= STRENGTHS.get(sign, 0) <= strongest:
        cursor.take(sign)
        join_last(parts, signs, STRENGTHS[sign])
        signs.append(sign)
        parts.append(read_part(cursor))
        sign = cursor.ahead(0)
    join_last(parts, signs, weakest)
    return parts[0]


def join_last(parts, signs, strength):
    while len(signs) > 0 and STRENGTHS[signs[-1]] >= strength:
        right = parts.pop()
        left = parts.pop()
        parts.append(Node(signs.pop(), parts=[left, right]))


def read_signed(cursor):
    if cursor.takes_if_seen("-"):
        return Node("minus", parts=[read_reached(cursor)])
    return read_reached(cursor)


def read_reached(cursor):
    reached = read_simple(cursor)
    while cursor.ahead(0) in ("(", "[", "."):
        if cursor.takes_if_seen("("):
            reached = Node("call", parts=[reached] + read_listed(cursor, ")"))
        elif cursor.takes_if_seen("["):
            reached = Node("element", parts=[reached, read_expression(cursor)])
            cursor.take("]")
        else:
            cursor.take(".")
            reached = Node("field", parts=[reached], name=cursor.take("name"))
    return reached


# The closing bracket is taken too.
def read_listed(cursor, closing):
    if cursor.takes_if_seen(closing):
        return []
    parts = [read_expression(cursor)]
    while cursor.takes_if_seen(","):
        parts.append(read_expression(cursor))
    cursor.take(closing)
    return parts


def read_simple(cursor):
    kind = cursor.ahead(0)
    if kind in ("number", "quoted"):
        return Node(kind, value=cursor.take(kind))
    if kind == "name":
        return Node(kind, name=cursor.take(kind))
    if kind == "(":
        return read_record_or_bracketed(cursor)
    if kind == "fn":
        return read_function(cursor)
    if kind in PARTS_OF_WORDS:
        return read_word_call(cursor, kind)
    if cursor.takes_if_seen("["):
        return Node("list", parts=read_listed(cursor, "]"))
    if kind in ("yes", "no", "none"):
        cursor.take(kind)
        return Node(kind)
    raise NotGood()


def read_record_or_bracketed(cursor):
    cursor.take("(")
    if cursor.takes_if_seen(":"):
        cursor.take(")")
        return Node("record")
    if cursor.sees("name") and cursor.ahead(1) == ":":
        return read_record_fields(cursor)
    expression = read_expression(cursor)
    cursor.take(")")
    return expression


def read_record_fields(cursor):
    names = []
    parts = []
    while len(names) == 0 or cursor.takes_if_seen(","):
        names.append(cursor.take("name"))
        cursor.take(":")
        parts.append(read_expression(cursor))
    cursor.take(")")
    return Node("record", parts=parts, names=names)


def read_function(cursor):
    cursor.take("fn")
    own_name = cursor.take("name") if cursor.sees("name") else None
    cursor.take("(")
    parameters = read_parameters(cursor)
    return Node("fn", blocks=[read_block(cursor)], name=own_name, names=parameters)


# The closing bracket is taken too.
def read_parameters(cursor):
    if cursor.takes_if_seen(")"):
        return []
    parameters = [cursor.take("name")]
    while cursor.takes_if_seen(","):
        parameters.append(cursor.take("name"))
    cursor.take(")")
    return parameters


def read_word_call(cursor, word):
    cursor.take(word)
    cursor.take("(")
    parts = read_listed(cursor, ")")
    if len(parts) != PARTS_OF_WORDS[word]:
        raise NotGood()
    return Node(word, parts=parts)
