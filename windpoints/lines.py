"""Lines that show where they were spoilt: each with its place, its length and a check."""

from windpoints.errors import NoText
from windpoints.terms import FIGURES, FIRST_SIGN, LAST_SIGN

# A prime: so neither a changed sign nor two that changed places leave the check as it was.
MODULUS = 999983
# A first line that tells of more lines than this is none that was told.
MOST_COUNT_FIGURES = 12


def check(line):
    """Tell the sum of a text's signs, each by its number times its place from 1, by rest of MODULUS."""
    return sum([place * ord(sign) for place, sign in enumerate(line, start=1)]) % MODULUS


def lined(place, rest):
    """Tell the line at a place that has this rest."""
    line = f"{place} {len(rest)} {rest}"
    return f"{line} {check(line)}"


def all_lined(rests):
    """Tell the text of lines with these rests, behind one that tells how many they are."""
    lines = [lined(0, str(len(rests)))]
    for place, rest in enumerate(rests, start=1):
        lines.append(lined(place, rest))
    return "\n".join(lines)


def are_line_signs(rest):
    return all([FIRST_SIGN <= ord(sign) <= LAST_SIGN for sign in rest])


def rest_of(place, line):
    """Tell the rest of the line at a place; where it is of another form it is refused."""
    words = line.split(" ")
    rest = " ".join(words[2:-1])
    # Made anew it must be the same: so no number has a needless nought, and each is as it should be.
    if len(words) < 4 or not are_line_signs(rest) or lined(place, rest) != line:
        raise NoText(place)
    return rest


def count_of(rest):
    """Tell how many lines follow by the first line's rest."""
    if not rest or len(rest) > MOST_COUNT_FIGURES or not all([sign in FIGURES for sign in rest]):
        raise NoText(0)
    return int(rest)


def rests_of(text):
    """Tell the rests of a text's lines behind the first; what is not such a text is refused."""
    lines = text.split("\n")
    many = count_of(rest_of(0, lines[0]))
    rests = []
    for place, line in enumerate(lines[1:], start=1):
        if place > many:
            raise NoText(place)
        rests.append(rest_of(place, line))
    if len(rests) < many:
        raise NoText(len(lines))
    return rests
