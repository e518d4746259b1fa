"""Writing: a night as a text, and a text read to a night."""

from ferrynight.errors import BadNote, BadQuarrel, BadRoom, BadThing
from ferrynight.night import NO_KEEPER, Night

FIGURES = "0123456789"
MOST_FIGURES = 10


def thing_line(pace, rows):
    word = "rows" if rows else "sits"
    return f"thing {pace} {word}\n"


def quarrel_line(one, other, keeper):
    word = "-" if keeper == NO_KEEPER else str(keeper)
    return f"quarrel {one} {other} {word}\n"


def shown(night):
    room = night.room()
    lines = [f"boat {room}\n"]
    lines.extend([thing_line(pace, rows) for pace, rows in night.things()])
    lines.extend([quarrel_line(one, other, keeper) for one, other, keeper in night.quarrels()])
    return "".join(lines)


# The figures are looked at one by one, since int takes more: blanks, signs, underscores, other scripts.
def is_number(word):
    if word == "0":
        return True
    # The bound is the length of 10 ** 9; it keeps int from numbers too long for it.
    if not 1 <= len(word) <= MOST_FIGURES or word[0] == "0":
        return False
    return all([sign in FIGURES for sign in word])


def read_number(word):
    if not is_number(word):
        raise BadNote("a number is written by figures without a nought ahead")
    return int(word)


def read_words(line, first, count):
    words = line.split(" ")
    if words[0] != first or len(words) != count:
        raise BadNote("a line is a boat, a thing or a quarrel, in this order")
    return words


def read_boat(line):
    words = read_words(line, "boat", 2)
    return read_number(words[1])


def read_thing(line):
    words = read_words(line, "thing", 3)
    if words[2] != "rows" and words[2] != "sits":
        raise BadNote("a thing rows or sits")
    return (read_number(words[1]), words[2] == "rows")


def read_quarrel(line):
    words = read_words(line, "quarrel", 4)
    keeper = NO_KEEPER if words[3] == "-" else read_number(words[3])
    return (read_number(words[1]), read_number(words[2]), keeper)


def read(text):
    if not text.endswith("\n"):
        raise BadNote("each line has a line end behind it")
    # Split by the line feed alone: splitlines knows line ends that a note has not.
    lines = text.split("\n")[:-1]
    room = read_boat(lines[0])
    things = []
    quarrels = []
    for line in lines[1:]:
        # Behind the first quarrel only quarrels may come, so a thing there is read as one and refused.
        if line.startswith("thing ") and not quarrels:
            things.append(read_thing(line))
        else:
            quarrels.append(read_quarrel(line))
    try:
        night = Night(things, room, quarrels)
    except (BadThing, BadRoom, BadQuarrel) as bad:
        raise BadNote("what is written is no night") from bad
    return night
