"""What the tests share: texts made of Python's, and calls that are watched while they run."""

from cellnames import names

TOO_LONG = [-1]
NOT_GOOD = [-2]
NOT_SOUND = [-3]
NO_SUCH = [-4]
NO_NEW_NAME = [-5]
BOUND_ANEW = [-6]
SET_PARTED = [-6]
FORM_TOO_LONG = [-7]


def as_bytes(source):
    """The bytes of a Python text, each sign one byte."""
    return list(source.encode("latin-1"))


def told(source):
    """A name or a form as an answer tells it: how many bytes, then they."""
    return [len(source)] + as_bytes(source)


def listed(*sources):
    """A list of names as an answer tells it."""
    answer = [len(sources)]
    for source in sources:
        answer.extend(told(source))
    return answer


class Untouchable(list):
    """A list that fails at once when somebody changes it, for a while only too."""

    def refuse(self, *args, **kwargs):
        raise AssertionError("what was handed in is being changed")

    append = clear = extend = insert = pop = remove = reverse = sort = refuse
    __setitem__ = __delitem__ = __iadd__ = __imul__ = refuse


def answer(call, *handed):
    """The call's answer, once it is certain that it was given as the interface asks for."""
    plain = [as_bytes(one) if isinstance(one, str) else one for one in handed]
    watched = [Untouchable(one) if isinstance(one, list) else one for one in plain]
    copies = [list(one) if isinstance(one, list) else one for one in plain]
    first = call(*plain)
    if plain != copies:
        raise AssertionError("what was handed in has been changed")
    if type(first) is not list or any(type(number) is not int for number in first):
        raise AssertionError(f"not a list of whole numbers: {first!r}")
    kept = list(first)
    first.append(77)
    if call(*watched) != kept or call(*copies) != kept:
        raise AssertionError("the second answer differs from the first")
    return kept


def faults(source):
    return answer(names.faults, source)


def made(source):
    return answer(names.made, source)


def reads(source):
    return answer(names.reads, source)


def bindings(source):
    return answer(names.bindings, source)


def uses(source):
    return answer(names.uses, source)


def captured(k, source):
    return answer(names.captured, k, source)


def rename(source, old, new):
    return answer(names.rename, source, old, new)


def local(k, source, new):
    return answer(names.local, k, source, new)


def alike(first, second):
    return answer(names.alike, first, second)


def split(k, source):
    return answer(names.split, k, source)


def draws(source):
    return answer(names.draws, source)


def form(source):
    """The one form, by a change of names that stand behind all else, and by split; all must tell the same."""
    changed = changed_form(source)
    if split(0, source) != [0] + told(changed):
        raise AssertionError(f"split tells another form than rename and local: {source}")
    return changed


def changed_form(source):
    tail = "\nshow zx + fn (zy) {};"
    found = rename(source + tail.replace("zx", "zz"), "zz", "zx")
    other = local(bindings(source)[0], source + tail.replace("zy", "zz"), "zy")
    if found != other or found[0] != len(found) - 1:
        raise AssertionError(f"rename answers {found!r}, local {other!r}: {source}")
    whole = bytes(found[1:]).decode("ascii")
    if whole == tail[1:]:
        return ""
    if not whole.endswith(tail):
        raise AssertionError(whole)
    return whole[:-len(tail)]


def pairs(source):
    """The pairs that faults answers, as tuples."""
    numbers = faults(source)
    if len(numbers) != 1 + 2 * numbers[0]:
        raise AssertionError(f"not as many pairs as are told: {numbers!r}")
    return list(zip(numbers[1::2], numbers[2::2]))


def is_good(source):
    """Whether the text is good, asked from each call: each must be of the same mind."""
    found = faults(source)
    others = [call(source) for call in (made, reads, bindings, uses, draws)]
    others.extend([alike(source, source), split(0, source)])
    if others[0][0] < 0:
        others.extend([captured(0, source), rename(source, "", ""), local(0, source, "")])
    if found == NOT_GOOD:
        if others != [NOT_GOOD] * 10:
            raise AssertionError(f"faults refuses, the others answer {others!r}")
        return False
    if found[0] < 0:
        raise AssertionError(f"refused by {found!r}")
    if found != [0] and others != [NOT_SOUND] * 10:
        raise AssertionError(f"faults answers {found!r}, the others {others!r}")
    if found == [0] and any(one[0] < 0 for one in others):
        raise AssertionError(f"faults answers {found!r}, the others {others!r}")
    return True


def padded(source, size):
    """The same program in so many bytes: blanks stand behind it."""
    return source + " " * (size - len(source))
