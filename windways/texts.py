"""Stage 13: mines and facts as texts."""

from windways.errors import ParseError
from windways.facts import MOST_FACTS
from windways.mines import MOST_PLACES, MOST_WAYS, is_integer_within, is_place_pair

# The words before the ways, and the sides of facts; all numbers in texts have one digit.
FIRST_WORDS = ("places", "inlet", "outlet")
SIDES = {"above": 1, "from": 0}
NUMBERS = {"0": 0, "1": 1, "2": 2, "3": 3, "4": 4, "5": 5, "6": 6, "7": 7, "8": 8}


def format_mine(mine):
    """Return the text of a mine."""
    places, ways, inlet, outlet = mine
    rows = [("places", places), ("inlet", inlet), ("outlet", outlet)] + [("way", a, b) for a, b in ways]
    return as_text(rows)


def format_facts(facts):
    """Return the text of facts."""
    return as_text([(x, "above" if s == 1 else "from", y) for x, y, s in facts])


def as_text(rows):
    """Return the text with a line for each row of words and numbers."""
    return "".join([" ".join([str(word) for word in row]) + "\n" for row in rows])


def parse_mine(text):
    """Return the mine of a text, otherwise raise ParseError."""
    *lines, rest = text.split("\n")
    told = []
    for index, line in enumerate(lines):
        value = value_behind(told, line.split(" "))
        if value is None:
            raise ParseError(index)
        told.append(value)
    ways = told[len(FIRST_WORDS):]
    if rest != "" or not ways:
        raise ParseError(len(lines))
    places, inlet, outlet = told[:len(FIRST_WORDS)]
    return (places, tuple(ways), inlet, outlet)


def value_behind(told, words):
    """Return what a line of these words tells of a mine behind the lines that told something, or None."""
    if len(told) >= len(FIRST_WORDS):
        return way_behind(told, words)
    if len(words) != 2 or words[0] != FIRST_WORDS[len(told)]:
        return None
    number = NUMBERS.get(words[1])
    least, most = (0, told[0] - 1) if told else (2, MOST_PLACES)
    return number if is_integer_within(number, least, most) and number not in told[1:] else None


def way_behind(told, words):
    """Return the way that a line of these words tells behind the lines that told something, or None."""
    if len(words) != 3 or words[0] != "way" or len(told) == len(FIRST_WORDS) + MOST_WAYS:
        return None
    way = (NUMBERS.get(words[1]), NUMBERS.get(words[2]))
    return way if is_place_pair(way, told[0]) else None


def parse_facts(text):
    """Return the facts of a text, otherwise raise ParseError."""
    *lines, rest = text.split("\n")
    facts = []
    for index, line in enumerate(lines):
        fact = fact_of(line.split(" "))
        if fact is None or len(facts) == MOST_FACTS:
            raise ParseError(index)
        facts.append(fact)
    if rest != "":
        raise ParseError(len(lines))
    return tuple(facts)


def fact_of(words):
    """Return the fact that a line of these words tells, or None."""
    if len(words) != 3 or words[1] not in SIDES:
        return None
    pair = (NUMBERS.get(words[0]), NUMBERS.get(words[2]))
    return pair + (SIDES[words[1]],) if is_place_pair(pair, MOST_PLACES) else None
