"""A second way to read texts, written for the tests alone: all ways in which a text could go on are kept at once."""

from functools import lru_cache

from tests.other_ways import MAKERS, ONE_OLD, TWO_OLD

MOST_OPEN = 40


def plain_wood_text(wood):
    """The text of a wood that is not the empty one."""
    return " ".join(name + ("(" + plain_wood_text(inside) + ")" if inside else "") for name, inside in wood)


def signs(text):
    """A text as signs that have to stand one behind the other."""
    return tuple(text)


@lru_cache(maxsize=None)
def ways(part):
    """All that a part, a pair of a word and a number, can consist of: tuples of signs and parts."""
    word, many = part
    if word == "name":
        return [("letter",)] + ([("letter", ("name", many + 1))] if many < 8 else [])
    if word == "wood":
        return [signs("-"), (("trees", 0),)]
    if word == "trees":
        return [(("tree", many),), (("tree", many), " ", part)]
    if word == "tree":
        inner = [(("name", 1), "(", ("trees", many + 1), ")")] if many < MOST_OPEN else []
        return [(("name", 1),)] + inner
    if word == "script":
        return [signs("-"), (("deeds", 0),)]
    if word == "deeds":
        return [(("deed", 0),), (("deed", 0), ";", " ", part)]
    if word == "deed":
        name = (" ", ("name", 1))
        return [signs(told) + name for told in ONE_OLD] + [signs(told) + name * 2 for told in TWO_OLD + MAKERS]
    return wish_ways(many)


def wish_ways(many):
    """What a wish behind so many open brackets can be; with all of them open there is none."""
    two = (("name", 1), " ", ("name", 1), ")")
    names = [signs("in(") + two, signs("ahead(") + two, signs("here(") + two[:1] + two[3:]]
    if many >= MOST_OPEN - 1:
        return names
    inner = ("wish", many + 1)
    return names + [signs("and(") + (inner, " ", inner, ")"), signs("or(") + (inner, " ", inner, ")"),
                    signs("not(") + (inner, ")")]


def opened(rows):
    """The rows of what is still to come, each beginning with a sign, or empty."""
    found = set()
    todo = list(rows)
    while todo:
        row = todo.pop()
        if row and isinstance(row[0], tuple):
            todo.extend(told + row[1:] for told in ways(row[0]))
        else:
            found.add(row)
    return found


def takes(sign, char):
    return "a" <= char <= "z" if sign == "letter" else sign == char


def plain_position(kind, text):
    """None for a right text of this kind, otherwise the position that BadText tells."""
    rows = opened([((kind, 0),)])
    for place, char in enumerate(text):
        rows = opened([row[1:] for row in rows if row and takes(row[0], char)])
        if not rows:
            return place
    return None if () in rows else len(text)


def changed_texts(text):
    """A text with one character put in, replaced, taken away, doubled, or cut at each place."""
    for place in range(len(text) + 1):
        yield text[:place]
        for char in "az ()-;/A\n":
            yield text[:place] + char + text[place:]
            yield text[:place] + char + text[place + 1:]
        yield text[:place] + text[place + 1:]
        yield text[:place] + text[place:place + 1] * 2 + text[place + 1:]
        yield text[:place] + text[place:place + 1].upper() + text[place + 1:]
        yield text[:place] + text[place:place + 2][::-1] + text[place + 2:]
        yield text[:place] + "aaaaaaaaa" + text[place:]
