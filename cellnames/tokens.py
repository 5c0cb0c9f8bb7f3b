"""A text, which is a list of bytes, cut into tokens."""

from cellnames.errors import NotGood

MOST_WORD_BYTES = 16
MOST_DIGITS = 30
BRACKETS_TOO_DEEP = 25

RESERVED = (
    "let", "set", "show", "table", "plot", "check", "slider", "choice", "if", "else",
    "while", "for", "in", "do", "give", "fn", "and", "or", "not", "yes", "no", "none",
    "len", "keys", "text", "num", "roll", "cut", "with",
)

TWO_BYTE_SIGNS = {(61, 61): "==", (33, 61): "!=", (60, 61): "<=", (62, 61): ">=", (43, 43): "++"}

# Byte 37 is called "mod", because its own sign may not stand within a text of the program.
ONE_BYTE_SIGNS = {
    43: "+", 45: "-", 42: "*", 47: "/", 37: "mod", 60: "<", 62: ">", 61: "=",
    40: "(", 41: ")", 91: "[", 93: "]", 123: "{", 125: "}",
    44: ",", 59: ";", 58: ":", 46: ".", 63: "?",
}

SAID_BEHIND_BACKSLASH = {92: 92, 34: 34, 110: 10}


# kind: "name", "number", "quoted", or else the reserved word or the sign itself.
# value: a name's bytes, a number, the bytes that a quoted text says; of others None.
# end: the place behind the token.
class Token:
    def __init__(self, kind, value, end):
        self.kind = kind
        self.value = value
        self.end = end


def spelled(word):
    return tuple([ord(letter) for letter in word])


def is_allowed(byte):
    return byte == 10 or 32 <= byte <= 126


def is_digit(byte):
    return 48 <= byte <= 57


def begins_word(byte):
    return 65 <= byte <= 90 or 97 <= byte <= 122 or byte == 95


def continues_word(byte):
    return begins_word(byte) or is_digit(byte)


# Whether the bytes are one word that isn't reserved, and nothing else.
def is_name(word):
    if not 1 <= len(word) <= MOST_WORD_BYTES or not begins_word(word[0]):
        return False
    if not all([continues_word(byte) for byte in word]):
        return False
    return tuple(word) not in [spelled(one) for one in RESERVED]


def comment_end(text, start):
    place = start
    while place < len(text) and text[place] != 10:
        place += 1
    return place


def word_token(text, start, reserved):
    end = start
    while end < len(text) and continues_word(text[end]):
        end += 1
    if end - start > MOST_WORD_BYTES:
        raise NotGood()
    word = tuple(text[start:end])
    if word in reserved:
        return Token(reserved[word], None, end)
    return Token("name", word, end)


def number_token(text, start):
    end = start
    number = 0
    while end < len(text) and is_digit(text[end]):
        number = number * 10 + text[end] - 48
        end += 1
    digits = end - start
    if digits > MOST_DIGITS or (digits > 1 and text[start] == 48):
        raise NotGood()
    return Token("number", number, end)


def quoted_token(text, start):
    said = []
    place = start + 1
    while place < len(text) and text[place] != 34:
        if text[place] == 10:
            raise NotGood()
        if text[place] == 92:
            place += 1
            said.append(said_behind_backslash(text, place))
        else:
            said.append(text[place])
        place += 1
    if place >= len(text):
        raise NotGood()
    return Token("quoted", tuple(said), place + 1)


def said_behind_backslash(text, place):
    if place >= len(text) or text[place] not in SAID_BEHIND_BACKSLASH:
        raise NotGood()
    return SAID_BEHIND_BACKSLASH[text[place]]


def sign_token(text, start):
    pair = tuple(text[start:start + 2])
    if pair in TWO_BYTE_SIGNS:
        return Token(TWO_BYTE_SIGNS[pair], None, start + 2)
    if text[start] in ONE_BYTE_SIGNS:
        return Token(ONE_BYTE_SIGNS[text[start]], None, start + 1)
    raise NotGood()


def token_at(text, place, reserved):
    byte = text[place]
    if begins_word(byte):
        return word_token(text, place, reserved)
    if is_digit(byte):
        return number_token(text, place)
    if byte == 34:
        return quoted_token(text, place)
    return sign_token(text, place)


# Raises NotGood for a byte that isn't allowed and for a wrong token.
def cut_tokens(text):
    for byte in text:
        if not is_allowed(byte):
            raise NotGood()
    reserved = dict([(spelled(word), word) for word in RESERVED])
    tokens = []
    place = 0
    while place < len(text):
        if text[place] in (10, 32):
            place += 1
        elif text[place] == 35:
            place = comment_end(text, place)
        else:
            token = token_at(text, place, reserved)
            tokens.append(token)
            place = token.end
    return tokens


# All kinds of brackets count alike here, matched or not: so the document counts them.
def brackets_too_deep(tokens):
    depth = 0
    for token in tokens:
        if token.kind in ("(", "[", "{"):
            depth += 1
            if depth >= BRACKETS_TOO_DEEP:
                return True
        elif token.kind in (")", "]", "}"):
            depth -= 1
    return False
