"""Texts that differ from a written one in a sign or a line, for the tests of what is read."""

from pieceyard.errors import BadText

SIGNS = " 0123456789.-:+_!?()[]|abkxz\n\tK/~"


def near_texts(text, step=1):
    # Each sign left out, doubled, exchanged with the next, made great, and others put in its place or ahead of it.
    found = {text + sign for sign in SIGNS} | {text + text, ""}
    for at in range(0, len(text), step):
        ahead, sign, behind = text[:at], text[at], text[at + 1:]
        found.add(ahead + behind)
        found.add(ahead + sign + sign + behind)
        found.add(ahead + behind[:1] + sign + behind[1:])
        found.add(ahead + sign.upper() + behind)
        found.add(text[:at])
        found.add(text[at:])
        for other in SIGNS:
            found.add(ahead + other + behind)
            found.add(ahead + other + sign + behind)
    rows = text.split("\n")
    for at in range(len(rows)):
        found.add("\n".join(rows[:at] + rows[at + 1:]))
        found.add("\n".join(rows[:at] + rows[at:at + 1] + rows[at:]))
        found.add("\n".join(rows[:at] + rows[at + 1:at + 2] + rows[at:at + 1] + rows[at + 2:]))
    return sorted(found - {text})


def misread(read, write, text):
    # Every near text must be refused, or be itself what is written of what was read; told are those that are neither.
    # An error of another kind comes out as it is.
    wrong = []
    read_too = 0
    for other in near_texts(text):
        try:
            value = read(other)
        except BadText as refusal:
            if refusal.__class__ is not BadText:
                wrong.append(other)
            continue
        read_too += 1
        if write(value) != other:
            wrong.append(other)
    return wrong, read_too
