"""The calls against a slow model that takes the document's words one by one.

The model cuts tokens by patterns, reads the grammar from the document's own lines, tries all
ways to read a text, and asks of each binding place from which token to which it holds.
"""

import re
import sys
import unittest

from helper import as_bytes

from cellnames import names

GRAMMAR = """
    PROGRAM  = STATEMENT*
    BLOCK    = "{" STATEMENT* "}"
    STATEMENT = "let" NAME "=" E ";"  |  "set" NAME "=" E ";"
             | "show" E ";" | "table" E ";" | "plot" E ";" | "check" E ";"
             | "do" E ";" | "give" E ";"
             | "if" E BLOCK ("else" BLOCK)?
             | "while" E BLOCK
             | "for" NAME "in" E BLOCK
             | "slider" NAME "=" WHOLE "in" WHOLE "," WHOLE ";"
             | "choice" NAME "=" NUMBER "in" QUOTED ("," QUOTED)* ";"
    WHOLE    = "-"? NUMBER
    E        = OR ("?" OR ":" OR)?
    OR       = AND ("or" AND)*
    AND      = NOT ("and" NOT)*
    NOT      = "not"? COMPARED
    COMPARED = JOINED (("==" | "!=" | "<" | "<=" | ">" | ">=") JOINED)?
    JOINED   = SUM ("++" SUM)*
    SUM      = PRODUCT (("+" | "-") PRODUCT)*
    PRODUCT  = SIGNED (("*" | "/" | "%") SIGNED)*
    SIGNED   = "-"? REACHED
    REACHED  = SIMPLE ( "(" LISTED ")" | "[" E "]" | "." NAME )*
    LISTED   = ( E ("," E)* )?
    SIMPLE   = NUMBER | QUOTED | "yes" | "no" | "none" | NAME
             | "[" LISTED "]"
             | "(" ":" ")"
             | "(" NAME ":" E ("," NAME ":" E)* ")"
             | "(" E ")"
             | "fn" NAME? "(" ( NAME ("," NAME)* )? ")" BLOCK
             | ("len" | "keys" | "text" | "num" | "roll") "(" E ")"
             | ("cut" | "with") "(" E "," E "," E ")"
"""

RESERVED = (
    "let set show table plot check slider choice if else while for in do give fn and or not "
    "yes no none len keys text num roll cut with"
).split()

TOKEN = re.compile(
    r'(?P<pass>[\n ]+|#[^\n]*)|(?P<word>[A-Za-z_][A-Za-z0-9_]*)|(?P<number>[0-9]+)'
    r'|(?P<quoted>"(?:\\[\\"n]|[^\n"\\])*")|(?P<sign>==|!=|<=|>=|\+\+|[-+*/%<>=()\[\]{},;:.?])'
)


# ---- the grammar's lines, read into nested tuples

def read_grammar():
    lines = {}
    for name, body in re.findall(r"(\w+)\s+= (.*?)(?=\n\s+[A-Z]+\s+= |\Z)", GRAMMAR, re.S):
        pieces = re.findall(r'"[^"]+"|[A-Z]+|[()|?*]', body)
        rule, rest = read_either(pieces)
        if rest:
            raise AssertionError(rest)
        lines[name] = rule
    return lines


def read_either(pieces):
    ways = []
    while True:
        row = []
        while pieces and pieces[0] not in ("|", ")"):
            one, pieces = read_piece(pieces)
            row.append(one)
        ways.append(("row", row))
        if not pieces or pieces[0] == ")":
            return ("either", ways), pieces
        pieces = pieces[1:]


def read_piece(pieces):
    if pieces[0] == "(":
        one, pieces = read_either(pieces[1:])
    elif pieces[0].startswith('"'):
        one = ("token", pieces[0][1:-1])
    else:
        one = ("line", pieces[0])
    pieces = pieces[1:]
    if pieces and pieces[0] in ("?", "*"):
        one = (pieces[0], one)
        pieces = pieces[1:]
    return one, pieces


LINES = read_grammar()


# ---- the model

class NotGood(Exception):
    pass


def cut(source):
    tokens = []
    place = 0
    while place < len(source):
        found = TOKEN.match(source, place)
        if not found:
            raise NotGood
        place = found.end()
        kind, token = found.lastgroup, found.group()
        if kind == "word" and len(token) > 16 or kind == "number" and not re.fullmatch("0|[1-9][0-9]{0,29}", token):
            raise NotGood
        if kind == "word":
            kind = "sign" if token in RESERVED else "NAME"
        if kind != "pass":
            tokens.append((kind.upper(), token))
    return tokens


class Piece:
    """What a line of the grammar read, from token start to before token end."""

    def __init__(self, line, start, end, inner):
        self.line, self.start, self.end, self.inner = line, start, end, inner


class Readings:
    """All ways to read: from each place and piece of a rule, the ends and what was read."""

    def __init__(self, tokens):
        self.tokens = tokens
        self.known = {}

    def of(self, rule, start):
        key = (id(rule), start) if rule[0] != "line" else (rule[1], start)
        if key not in self.known:
            self.known[key] = self.found(rule, start)
        return self.known[key]

    def found(self, rule, start):
        kind, what = rule
        if kind == "token" or kind == "line" and what in ("NAME", "NUMBER", "QUOTED"):
            wanted = ("SIGN", what) if kind == "token" else None
            here = self.tokens[start] if start < len(self.tokens) else ("END", "")
            return {start + 1: []} if here == wanted or (wanted is None and here[0] == what) else {}
        if kind == "line":
            return {end: [Piece(what, start, end, inner)] for end, inner in self.of(LINES[what], start).items()}
        if kind == "either":
            ends = {}
            for way in what:
                for end, inner in self.of(way, start).items():
                    if end in ends:
                        raise AssertionError("read in two ways")
                    ends[end] = inner
            return ends
        if kind == "row":
            ends = {start: []}
            for one in what:
                ends = {last: inner + more for end, inner in ends.items() for last, more in self.of(one, end).items()}
            return ends
        ends = {start: []}
        newest = dict(ends)
        while newest:
            newest = {last: inner + more for end, inner in newest.items() for last, more in self.of(what, end).items()}
            ends.update(newest)
            if kind == "?":
                break
        return ends


EXPRESSION_LINES = ("E", "OR", "AND", "NOT", "COMPARED", "JOINED", "SUM", "PRODUCT", "SIGNED", "REACHED", "SIMPLE")


class Model:
    def __init__(self, source):
        self.tokens = cut(source)
        balance = 0
        for kind, token in self.tokens:
            if kind == "SIGN" and token in "([{":
                balance += 1
                if balance >= 25:
                    raise NotGood
            elif kind == "SIGN" and token in ")]}":
                balance -= 1
        whole = Readings(self.tokens).of(("line", "PROGRAM"), 0)
        if len(self.tokens) not in whole:
            raise NotGood
        self.program = whole[len(self.tokens)][0]
        if max([self.depth(one) for one in self.program.inner], default=0) > 40:
            raise NotGood
        self.pieces = list(self.all_pieces(self.program))
        self.functions = [one for one in self.pieces if self.first(one) == "fn" and one.line == "SIMPLE"]
        self.blocks = [one for one in self.pieces if one.line in ("BLOCK", "PROGRAM")]
        self.find_places()
        self.find_uses()

    def first(self, piece):
        return self.tokens[piece.start][1] if self.tokens[piece.start:] and self.tokens[piece.start][0] == "SIGN" else ""

    def token(self, place):
        return self.tokens[place][1]

    def is_record(self, piece):
        return piece.line == "SIMPLE" and self.first(piece) == "(" and (
            self.token(piece.start + 1) == ":" or self.tokens[piece.start + 1][0] == "NAME"
            and self.token(piece.start + 2) == ":"
        )

    def is_bracketed(self, piece):
        return piece.line == "SIMPLE" and self.first(piece) == "(" and not self.is_record(piece)

    def all_pieces(self, piece):
        yield piece
        for one in piece.inner:
            yield from self.all_pieces(one)

    def depth(self, piece):
        inner = [self.depth(one) for one in piece.inner if one.line != "WHOLE"]
        if piece.line == "REACHED":
            return self.depth_reached(piece)
        if piece.line in ("OR", "AND", "JOINED", "SUM", "PRODUCT"):
            deep = inner[0]
            for one in inner[1:]:
                deep = 1 + max(deep, one)
            return deep
        if piece.line in ("LISTED", "BLOCK"):
            return max(inner, default=0)
        if self.is_bracketed(piece):
            return inner[0]
        if piece.line in ("E", "COMPARED") and len(inner) == 1:
            return inner[0]
        if piece.line in ("NOT", "SIGNED") and piece.inner[0].start == piece.start:
            return inner[0]
        return 1 + max(inner, default=0)

    def depth_reached(self, piece):
        inner = {one.start: one for one in piece.inner}
        deep = self.depth(piece.inner[0])
        place = piece.inner[0].end
        while place < piece.end:
            if self.token(place) == ".":
                deep += 1
                place += 2
            else:
                one = inner[place + 1]
                deep = 1 + max(deep, self.depth(one))
                place = one.end + 1
        return deep

    def level(self, place):
        return sum(1 for one in self.functions if one.start < place < one.end)

    def block_around(self, place):
        return max((one for one in self.blocks if one.start <= place < one.end), key=lambda one: (one.start, one.line))

    def statement(self, place):
        return sum(1 for one in self.program.inner if one.end <= place)

    def find_places(self):
        """Tuples: token, kind, (hold's beginning, rank), hold's end, piece, outermost."""
        self.places = []
        for piece in self.pieces:
            first = self.first(piece)
            if piece.line == "STATEMENT" and first in ("let", "slider", "choice"):
                block = self.block_around(piece.start)
                kind = ("let", "slider", "choice").index(first)
                outermost = 1 if block is self.program else 0
                self.places.append((piece.start + 1, kind, (piece.end, 0), block.end, block, outermost))
            if piece.line == "STATEMENT" and first == "for":
                block = piece.inner[-1]
                self.places.append((piece.start + 1, 3, (block.start, 0), block.end, block, 0))
            if piece in self.functions:
                block = piece.inner[-1]
                for place in range(piece.start + 1, block.start):
                    if self.tokens[place][0] == "NAME":
                        kind = 4 if place == piece.start + 1 else 5
                        self.places.append((place, kind, (block.start, place), block.end, block, 0))
        self.places.sort(key=lambda one: one[0])

    def find_uses(self):
        """Tuples: token, the number of the binding place or -1, 1 for a set's name."""
        self.uses = []
        for piece in self.pieces:
            if piece.line == "SIMPLE" and piece.end == piece.start + 1 and self.tokens[piece.start][0] == "NAME":
                self.uses.append((piece.start, self.bound(piece.start), 0))
            if piece.line == "STATEMENT" and self.first(piece) == "set":
                self.uses.append((piece.start + 1, self.bound(piece.start + 1), 1))
        self.uses.sort()

    def bound(self, use):
        holding = [
            (begin, number) for number, (place, kind, begin, end, block, outermost) in enumerate(self.places)
            if self.token(place) == self.token(use) and begin[0] <= use < end
        ]
        return max(holding)[1] if holding else -1

    def faults(self):
        found = set()
        for number, (place, kind, begin, end, block, outermost) in enumerate(self.places):
            for earlier in self.places[:number]:
                if self.token(earlier[0]) == self.token(place) and earlier[4] is block:
                    if kind < 3 and earlier[1] < 3:
                        found.add((self.statement(place), 1))
                    if kind == earlier[1] == 5:
                        found.add((self.statement(place), 2))
            if kind in (1, 2) and not outermost:
                found.add((self.statement(place), 6))
        for use, bound, of_set in self.uses:
            if of_set and (
                bound == -1 or self.places[bound][1] in (1, 2, 4)
                or self.level(self.places[bound][0]) != self.level(use)
            ):
                found.add((self.statement(use), 4))
        for piece in self.pieces:
            kind = self.fault_by_itself(piece)
            if kind:
                found.add((self.statement(piece.start), kind))
        return sorted(found)

    def fault_by_itself(self, piece):
        first = self.first(piece)
        if self.is_record(piece):
            fields = [self.token(one.start - 2) for one in piece.inner]
            return 3 if len(set(fields)) < len(fields) else 0
        if piece.line == "STATEMENT" and first == "give" and self.level(piece.start) == 0:
            return 5
        if piece.line == "STATEMENT" and first == "slider":
            numbers = [int("".join(self.token(place) for place in range(one.start, one.end))) for one in piece.inner]
            return 7 if numbers[0] < numbers[1] or numbers[0] > numbers[2] else 0
        if piece.line == "STATEMENT" and first == "choice":
            texts = sum(1 for place in range(piece.start, piece.end) if self.tokens[place][0] == "QUOTED")
            return 8 if not int(self.token(piece.start + 3)) < texts else 0
        return 0

    def form(self):
        return self.form_of(self.program.inner)

    def form_of(self, statements):
        return "\n".join(self.statement_form(one) for one in statements)

    def statement_form(self, piece):
        first = self.first(piece)
        name = self.token(piece.start + 1)
        if first == "slider":
            numbers = [str(int("".join(self.token(place) for place in range(one.start, one.end)))) for one in piece.inner]
            return f"slider {name} = {numbers[0]} in {numbers[1]}, {numbers[2]};"
        if first == "choice":
            quoted = [token for kind, token in self.tokens[piece.start:piece.end] if kind == "QUOTED"]
            return f"choice {name} = {self.token(piece.start + 3)} in {', '.join(quoted)};"
        head = {"let": f"let {name} = ", "set": f"set {name} = ", "for": f"for {name} in "}.get(first, first + " ")
        blocks = [self.block_form(one) for one in piece.inner[1:]]
        return head + self.wanted(piece.inner[0], 0) + (" " + " else ".join(blocks) if blocks else ";")

    def block_form(self, piece):
        return "{ " + " ".join(self.statement_form(one) for one in piece.inner) + " }" if piece.inner else "{}"

    def wanted(self, piece, strength):
        return bracketed(self.own_form(piece), strength)

    def own_form(self, piece):
        """The strength and the form that the document tells for what the piece is."""
        inner = piece.inner
        if piece.line == "SIMPLE":
            return self.simple_form(piece)
        if piece.line == "REACHED":
            return self.reached_form(piece)
        if piece.line == "E" and len(inner) == 3:
            return 0, " : ".join([" ? ".join(self.wanted(one, 1) for one in inner[:2]), self.wanted(inner[2], 1)])
        if piece.line == "NOT" and self.first(piece) == "not":
            return 3, "not " + self.wanted(inner[0], 4)
        if piece.line == "SIGNED" and self.first(piece) == "-":
            return 8, "-" + self.wanted(inner[0], 9)
        found = self.own_form(inner[0])
        for one in inner[1:]:
            strength, left, right = {
                "OR": (1, 1, 2), "AND": (2, 2, 3), "COMPARED": (4, 5, 5), "JOINED": (5, 5, 6), "SUM": (6, 6, 7),
                "PRODUCT": (7, 7, 8),
            }[piece.line]
            found = strength, f"{bracketed(found, left)} {self.token(one.start - 1)} {self.wanted(one, right)}"
        return found

    def reached_form(self, piece):
        inner = {one.start: one for one in piece.inner}
        found = self.own_form(piece.inner[0])
        place = piece.inner[0].end
        while place < piece.end:
            if self.token(place) == ".":
                behind = "." + self.token(place + 1)
                place += 2
            else:
                one = inner[place + 1]
                parts = one.inner if one.line == "LISTED" else [one]
                listed = ", ".join(self.wanted(part, 0) for part in parts)
                behind = self.token(place) + listed + self.token(one.end)
                place = one.end + 1
            found = 9, bracketed(found, 9) + behind
        return found

    def simple_form(self, piece):
        if self.is_bracketed(piece):
            return self.own_form(piece.inner[0])
        kind, token = self.tokens[piece.start]
        if token == "fn" and kind == "SIGN":
            names = [name for kind, name in self.tokens[piece.start + 1:piece.inner[-1].start] if kind == "NAME"]
            own = names.pop(0) if self.tokens[piece.start + 1][0] == "NAME" else ""
            return 10, f"fn {own}({', '.join(names)}) {self.block_form(piece.inner[-1])}"
        text = "".join(token for kind, token in self.tokens[piece.start:piece.end])
        if piece.inner:
            parts = piece.inner[0].inner if piece.inner[0].line == "LISTED" else piece.inner
            fields = [self.token(one.start - 2) + ": " if self.is_record(piece) else "" for one in parts]
            listed = ", ".join(field + self.wanted(one, 0) for field, one in zip(fields, parts))
            text = (token if token in "[(" else token + "(") + listed + self.token(piece.end - 1)
        return 10, text

    def changed(self, tokens, new):
        """The answer for a change of the name at these tokens, once the name itself is allowed."""
        after = model_of(" ".join(new if place in tokens else self.token(place) for place in range(len(self.tokens))))
        if after.faults() or [one[1] for one in after.uses] != [one[1] for one in self.uses]:
            return [-6]
        form = with_room(after.form)
        return told(form) if len(form) <= 600 else [-7]

    def rename(self, old, new):
        outer = [number for number, one in enumerate(self.places) if one[5]]
        made = [self.places[number][0] for number in outer]
        read = [use for use, bound, of_set in self.uses if bound == -1]
        known = [self.token(place) for place in made + read]
        if old not in known:
            return [-4]
        if not is_name(new) or new in known:
            return [-5]
        uses = [use for use, bound, of_set in self.uses if bound == -1 or bound in outer]
        return self.changed([place for place in made + uses if self.token(place) == old], new)

    def local(self, k, new):
        if not 0 <= k < len(self.places) or self.places[k][5]:
            return [-4]
        if not is_name(new):
            return [-5]
        return self.changed([self.places[k][0]] + [use for use, bound, of_set in self.uses if bound == k], new)


    def marked_form(self):
        """The form with each name that holds within alone, and its uses, written as a mark and a number."""
        within = [number for number, one in enumerate(self.places) if not one[5]]
        marks = {self.places[number][0]: f"${number}" for number in within}
        marks.update({use: f"${bound}" for use, bound, of_set in self.uses if bound in within})
        kept = self.tokens
        self.tokens = [("NAME", marks[place]) if place in marks else token for place, token in enumerate(kept)]
        form = with_room(self.form)
        self.tokens = kept
        return form

    def split(self, k):
        if k < 0 or k > len(self.program.inner):
            return [-4]
        for use, bound, of_set in self.uses:
            if of_set and self.statement(use) >= k:
                place, kind, begin, end, block, outermost = self.places[bound]
                if kind == 0 and outermost and self.statement(place) < k:
                    return [-6]
        first, second = self.program.inner[:k], self.program.inner[k:]
        return told(with_room(self.form_of, first)) + told(with_room(self.form_of, second))


def bracketed(found, wanted):
    return f"({found[1]})" if found[0] < wanted else found[1]


def is_name(word):
    return bool(re.fullmatch("[A-Za-z_][A-Za-z0-9_]{0,15}", word)) and word not in RESERVED


def told(name):
    return [len(name)] + as_bytes(name)


def told_sorted(found):
    in_order = sorted(found, key=as_bytes)
    return [len(in_order)] + [number for name in in_order for number in told(name)]


def with_room(call, *handed):
    """The model calls itself deeply; the calls under test have to do with what Python allows."""
    limit = sys.getrecursionlimit()
    sys.setrecursionlimit(20000)
    try:
        return call(*handed)
    finally:
        sys.setrecursionlimit(limit)


def model_of(source):
    return with_room(Model, source)


CALLS = ("faults", "made", "reads", "bindings", "uses", "draws")


def model_answers(source):
    """What the model answers, by the calls' names; of captured by its k."""
    try:
        model = model_of(source)
    except NotGood:
        return {call: [-2] for call in CALLS}, {0: [-2]}
    found = model.faults()
    answers = {call: [-3] for call in CALLS}
    answers["faults"] = [len(found)] + [number for pair in found for number in pair]
    if found:
        return answers, {0: [-3]}
    answers["made"] = model_made(model)
    answers["reads"] = model_reads(model)
    answers["bindings"] = model_bindings(model)
    answers["uses"] = model_uses(model)
    answers["draws"] = [1 if ("SIGN", "roll") in model.tokens else 0]
    return answers, model_captured(model)


def model_made(model):
    made = [one for one in model.places if one[5]]
    answer = [len(made)]
    for place, kind, *others in made:
        answer += [kind, model.statement(place)] + told(model.token(place))
    return answer


def model_reads(model):
    return told_sorted({model.token(use) for use, bound, of_set in model.uses if bound == -1})


def model_bindings(model):
    answer = [len(model.places)]
    for number, (place, kind, begin, end, block, outermost) in enumerate(model.places):
        uses = sum(1 for use in model.uses if use[1] == number)
        answer += [kind, model.level(place), outermost, uses] + told(model.token(place))
    return answer


def model_uses(model):
    answer = [len(model.uses)]
    for use, bound, of_set in model.uses:
        answer += [bound, of_set, model.level(use)] + told(model.token(use))
    return answer


def model_captured(model):
    functions = sorted(model.functions, key=lambda one: one.start)
    answers = {-1: [-4], len(functions): [-4]}
    for k, function in enumerate(functions):
        own = [number for number, one in enumerate(model.places) if function.start < one[0] < function.end]
        within = [one for one in model.uses if function.start < one[0] < function.end]
        answers[k] = told_sorted({model.token(use) for use, bound, of_set in within if bound not in own})
    return answers


def model_alike(model, other):
    """Of a model whose text is sound, and another text of at most 600 bytes."""
    try:
        second = model_of(other)
    except NotGood:
        return [-2]
    if second.faults():
        return [-3]
    return [1 if model.marked_form() == second.marked_form() else 0]


# ---- texts to ask about

class Dice:
    """The same numbers in each run."""

    def __init__(self, seed):
        self.state = seed * 7919 + 1

    def below(self, limit):
        self.state = (self.state * 6364136223846793005 + 1442695040888963407) % 2 ** 64
        return (self.state >> 33) % limit

    def one_of(self, things):
        return things[self.below(len(things))]


SEEDS = 600


def grown(dice, rule, room):
    """Tokens that the rule reads, fewer ways being open when room runs out."""
    kind, what = rule
    if kind == "token":
        return [what]
    if kind == "line" and what in ("NAME", "NUMBER", "QUOTED"):
        return [dice.one_of({"NAME": ["a", "b", "c"], "NUMBER": ["0", "1", "2"], "QUOTED": ['""', '"a\\n"']}[what])]
    if kind == "line":
        if what == "SIMPLE":
            return grown(dice, simple_way(dice, LINES[what][1], room), room)
        return grown(dice, LINES[what], room - 1 if what in ("E", "STATEMENT") else room)
    if kind == "either":
        return grown(dice, dice.one_of(what), room)
    if kind == "row":
        return [token for one in what for token in grown(dice, one, room)]
    return [token for time in range(repeats(dice, kind, what, room)) for token in grown(dice, what, room - 1)]


def simple_way(dice, ways, room):
    """Most often a name; if there's room, often a function."""
    name, function = ways[5], ways[10]
    if room <= 0 or dice.below(2):
        return name if dice.below(4) else ways[dice.below(6)]
    return function if dice.below(2) else dice.one_of(ways)


def repeats(dice, kind, what, room):
    """How often; statements, names and what stands behind commas more often than signs."""
    if kind == "*" and what == ("line", "STATEMENT"):
        return dice.below(4) if room > 0 else 0
    inner = what[1][0][1][0] if what[0] == "either" else what
    if inner not in (("line", "NAME"), ("line", "E"), ("token", ","), ("token", "else")):
        return 1 if dice.below(8) == 0 else 0
    return dice.below(2 if kind == "?" else 3) if room > -2 else 0


def joined(dice, tokens):
    gaps = (" ", " ", " ", "\n", "  ", " # x\n", "#\n")
    return "".join(token + dice.one_of(gaps) for token in tokens)


def grown_program(dice, most_statements):
    statements = 1 + dice.below(most_statements)
    return joined(dice, [token for time in range(statements) for token in grown(dice, ("line", "STATEMENT"), 4)])


def mutated(dice, source):
    """The text with one to three bytes, or one token, changed, taken out or put in."""
    for time in range(1 + dice.below(3)):
        place = dice.below(len(source) + 1)
        put = dice.one_of(list('abc019"\\#!=+-<>()[]{},;:.?\n $') + ["let ", "set ", " in ", "fn", "not ", " or "])
        source = source[:place] + ("" if dice.below(3) == 0 else put) + source[place + dice.below(2):]
    return source


def grown_sets(dice, most_statements, room):
    """A program in which names are bound, set and read, at its outermost and in blocks."""
    statements = []
    for time in range(1 + dice.below(most_statements)):
        shape = dice.one_of(["let @ = 1;", "let @ = @;", "set @ = @;", "set @ = 2;", "show @;"] + [
            "if @ { $ }", "if 1 {} else { $ }", "while 1 { $ }", "for @ in @ { $ }", "do fn (@) { $ };",
        ] * (room > 0))
        while "@" in shape:
            shape = shape.replace("@", dice.one_of(["a", "b"]), 1)
        statements.append(shape.replace("$", grown_sets(dice, 2, room - 1)) if "$" in shape else shape)
    return " ".join(statements)


def renamed_somewhere(dice, model):
    """The model's tokens in other gaps, with a name changed at a binding place and its uses, or at one token."""
    tokens = [token for kind, token in model.tokens]
    if model.places and dice.below(3):
        number = dice.below(len(model.places))
        changed = [model.places[number][0]] + [use for use, bound, of_set in model.uses if bound == number]
    else:
        found = [place for place, (kind, token) in enumerate(model.tokens) if kind == "NAME"]
        changed = [dice.one_of(found)] if found else []
    new = dice.one_of(["a", "b", "c", "d"])
    for place in changed:
        tokens[place] = new
    return " ".join(tokens) if dice.below(2) else "\n".join(tokens)


def grown_expression(dice, room):
    """Signs and words of each strength, with brackets that are needed, and with ones that aren't."""
    if room == 0 or dice.below(6) == 0:
        return dice.one_of(["a", "b", "1", '"#"', "none", "[]", "(:)", "fn () {}"])
    shape = dice.one_of([
        "@ ? @ : @", "@ or @", "@ and @", "not @", "@ == @", "@ >= @", "@ ++ @", "@ + @", "@ - @", "@ * @", "@ % @", "-@",
        "@(@)", "@[@]", "@.a", "[@, @]", "(a: @, b: @)", "len(@)", "roll(@)", "fn (a) { give @; }",
    ])
    while "@" in shape:
        inner = grown_expression(dice, room - 1)
        shape = shape.replace("@", f"({inner})" if dice.below(4) else inner, 1)
    return shape


class AgainstTheModel(unittest.TestCase):
    def compare(self, source):
        text = as_bytes(source)
        expected, captured = model_answers(source)
        for name, answer in expected.items():
            self.assertEqual(getattr(names, name)(text), answer, (name, source))
        for k, answer in captured.items():
            self.assertEqual(names.captured(k, text), answer, (k, source))
        return expected["faults"]

    def test_programs_grown_from_the_grammar(self):
        seen = {}
        for seed in range(SEEDS):
            source = grown_program(Dice(seed), 4)
            found = self.compare(source) if len(source) <= 600 else []
            for kind in found[2::2] or found:
                seen[kind] = seen.get(kind, 0) + 1
        self.assertEqual([kind for kind in range(9) if seen.get(kind, 0) < SEEDS // 60], [], seen)

    def test_programs_with_something_wrong_in_them(self):
        good = 0
        for seed in range(SEEDS):
            dice = Dice(seed)
            source = mutated(dice, grown_program(dice, 2))
            good += len(source) <= 600 and self.compare(source) != [-2]
        self.assertTrue(SEEDS // 10 < good < SEEDS - SEEDS // 10, good)

    def sound_models(self):
        for seed in range(SEEDS):
            dice = Dice(seed)
            source = grown_program(dice, 3)
            if len(source) <= 600 and names.reads(as_bytes(source)) != [-3]:
                yield dice, source, model_of(source)

    def test_names_changed(self):
        seen = {}
        for dice, source, model in self.sound_models():
            text = as_bytes(source)
            for old in "abc":
                new = dice.one_of(["a", "b", "c", "d", "D" * 16, "D" * 17])
                expected = model.rename(old, new)
                self.assertEqual(names.rename(text, as_bytes(old), as_bytes(new)), expected, (old, new, source))
                seen["rename", min(expected[0], 0)] = seen.get(("rename", min(expected[0], 0)), 0) + 1
            for k in range(-1, len(model.places) + 1):
                new = dice.one_of(["a", "b", "c", "d", "if"])
                expected = model.local(k, new)
                self.assertEqual(names.local(k, text, as_bytes(new)), expected, (k, new, source))
                seen["local", min(expected[0], 0)] = seen.get(("local", min(expected[0], 0)), 0) + 1
        for call in ("rename", "local"):
            for answer in (0, -4, -5, -6):
                self.assertGreater(seen.get((call, answer), 0), 2, (call, answer, seen))

    def test_split_at_each_number(self):
        seen = {}
        for dice, source, model in self.sound_models():
            self.compare_split(source, model, seen)
        for seed in range(SEEDS):
            source = "let a = 1; " + grown_sets(Dice(seed), 4, 2)
            if len(source) <= 600 and names.reads(as_bytes(source)) != [-3]:
                self.compare_split(source, model_of(source), seen)
        for answer in (0, -4, -6):
            self.assertGreater(seen.get(answer, 0), SEEDS // 10, seen)

    def compare_split(self, source, model, seen):
        for k in range(-1, len(model.program.inner) + 2):
            expected = model.split(k)
            self.assertEqual(names.split(k, as_bytes(source)), expected, (k, source))
            seen[min(expected[0], 0)] = seen.get(min(expected[0], 0), 0) + 1

    def test_alike_with_names_changed(self):
        seen = {}
        for dice, source, model in self.sound_models():
            for time in range(4):
                other = renamed_somewhere(dice, model)
                expected = model_alike(model, other)
                for first, second in ((source, other), (other, source)):
                    self.assertEqual(names.alike(as_bytes(first), as_bytes(second)), expected, (first, second))
                seen[expected[0]] = seen.get(expected[0], 0) + 1
        for answer, least in ((0, SEEDS // 10), (1, SEEDS // 10), (-3, 2)):
            self.assertGreater(seen.get(answer, 0), least, seen)

    def test_alike_with_something_wrong(self):
        seen = {}
        for dice, source, model in self.sound_models():
            other = mutated(dice, source)
            if len(other) <= 600:
                expected = model_alike(model, other)
                for first, second in ((source, other), (other, source)):
                    self.assertEqual(names.alike(as_bytes(first), as_bytes(second)), expected, (first, second))
                seen[expected[0]] = seen.get(expected[0], 0) + 1
        for answer in (0, 1, -2):
            self.assertGreater(seen.get(answer, 0), 2, seen)

    def test_whether_expressions_draw(self):
        seen = {}
        for seed in range(SEEDS):
            source = f"show {grown_expression(Dice(seed), 3)};"
            if len(source) <= 600:
                expected = model_answers(source)[0]["draws"]
                self.assertEqual(names.draws(as_bytes(source)), expected, source)
                seen[expected[0]] = seen.get(expected[0], 0) + 1
        self.assertGreater(min(seen.get(0, 0), seen.get(1, 0)), SEEDS // 10, seen)

    def test_forms_of_expressions(self):
        compared = 0
        for seed in range(SEEDS):
            source = f"show {grown_expression(Dice(seed), 4)};\nshow zz;"
            try:
                expected = model_of(source).rename("zz", "zy") if len(source) <= 600 else [-1]
            except NotGood:
                expected = [-2]
            self.assertEqual(names.rename(as_bytes(source), as_bytes("zz"), as_bytes("zy")), expected, source)
            if expected[0] > 0:
                form = bytes(expected[1:]).decode("ascii")
                self.assertEqual(names.rename(expected[1:], as_bytes("zy"), as_bytes("zz")),
                                 expected[:-2] + as_bytes("z;"), form)
                compared += 1
        self.assertGreater(compared, SEEDS // 4)


if __name__ == "__main__":
    unittest.main()
