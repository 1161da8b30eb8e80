"""Texts of nets: written out, and read back."""

from onewalls.errors import NoNet, NoText
from onewalls.nets import Net

FIGURES = "0123456789"

# The highest price has so many, and no other number of a net has more.
MOST_FIGURES = 10


# The refusals don't show what was handed in: it may be of any length.


def shown(net):
    """Write a net as a text."""
    rows = [f"places {net.many}"]
    for one, other, cost in net.ties():
        rows.append(f"tie {one} {other} {cost}")
    return "\n".join(rows)


def number_in(word):
    """Read a number as it is written, and no other way."""
    # Asked for ahead of int, which fails at very many figures.
    if len(word) < 1 or len(word) > MOST_FIGURES:
        raise NoText("a number has 1 to 10 figures")
    for sign in word:
        # Not by isdigit, which takes figures of other scripts too.
        if sign not in FIGURES:
            raise NoText("a number has figures from 0 to 9 only")
    if word[0] == "0" and len(word) > 1:
        raise NoText("a number has no nought ahead")
    return int(word)


def numbers_in(row, name, many):
    """Read the numbers of a row of this name, which has so many of them."""
    # At each single blank, so that doubled ones leave words without figures.
    words = row.split(" ")
    if words[0] != name or len(words) != many + 1:
        raise NoText(f"this is no row of the kind {name}")
    return [number_in(word) for word in words[1:]]


def read(text):
    """Read a net from its text."""
    if type(text) != str:
        raise NoText("this is no text")
    rows = text.split("\n")
    many = numbers_in(rows[0], "places", 1)[0]
    ties = [tuple(numbers_in(row, "tie", 3)) for row in rows[1:]]
    try:
        return Net(many, ties)
    except NoNet:
        raise NoText("this is no net") from None
