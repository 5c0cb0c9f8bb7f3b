"""A cell's text looked at as a whole, or refused."""

from cellnames.errors import NotGood
from cellnames.grammar import read_program
from cellnames.scopes import walk_program
from cellnames.soundness import fault_pairs

MOST_BYTES = 600

TOO_LONG = -1
NOT_GOOD = -2
NOT_SOUND = -3


# refusal: 0, or the number by which the text is refused; then the rest is None.
# statements: the program's tree. walk: its binding places and uses. pairs: its faults.
class Cell:
    def __init__(self, refusal, statements=None, walk=None, pairs=None):
        self.refusal = refusal
        self.statements = statements
        self.walk = walk
        self.pairs = pairs


def good_cell(text):
    if len(text) > MOST_BYTES:
        return Cell(TOO_LONG)
    try:
        statements = read_program(text)
    except NotGood:
        return Cell(NOT_GOOD)
    walk = walk_program(statements)
    return Cell(0, statements, walk, fault_pairs(walk))


def sound_cell(text):
    cell = good_cell(text)
    if cell.refusal == 0 and len(cell.pairs) > 0:
        return Cell(NOT_SOUND)
    return cell


# The refusal of a call that takes several texts, 0 if none of them is refused: what one of them
# is refused for comes before what another would be refused for later.
def first_refusal(cells):
    refusals = [cell.refusal for cell in cells]
    for refusal in (TOO_LONG, NOT_GOOD, NOT_SOUND):
        if refusal in refusals:
            return refusal
    return 0
