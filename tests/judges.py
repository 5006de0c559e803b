"""Judges of papers, told by the words of the document alone, and ways to spoil papers, for tests to compare with."""

import exact
from surds import VECTORS, Surd, beyond, sides_of_lozenge, surd

from threetiles.roots import Root


def is_int(thing):
    return type(thing) is int


def is_let(thing):
    """Whether a thing is a point that is a shift which no direction bars."""
    if type(thing) is not tuple or len(thing) != 2:
        return False
    return all([is_int(part) or type(part) is Root for part in thing]) and exact.barred(thing) is None


def has_tile(shift, tile):
    corner, i, j = tile
    one, other = exact.moved(corner, i), exact.moved(corner, j)
    return all([exact.has_corner(shift, part) for part in (corner, one, other, exact.moved(one, j))])


def has_all(shift, heap):
    return all([has_tile(shift, tile) for tile in heap])


def rows_for(heap):
    """The bounds of a heap, with Surds."""
    return [bound for tile in heap for bound in sides_of_lozenge(tile)]


def is_rest(thing, many, lengths):
    if type(thing) is not tuple or len(thing) not in lengths:
        return False
    for part in thing:
        if type(part) is not tuple or len(part) != 2 or not is_int(part[0]) or not is_int(part[1]):
            return False
        if not 0 <= part[0] < many or part[1] < 1:
            return False
    indexes = [index for index, weight in thing]
    return indexes == sorted(set(indexes))


def summed(rows, rest):
    x = sum([VECTORS[rows[index][0]][0] * weight for index, weight in rest])
    y = sum([VECTORS[rows[index][0]][1] * weight for index, weight in rest])
    total = Surd(0)
    for index, weight in rest:
        total = total + surd(rows[index][1]) * weight
    return ((x, y), total)


def is_bars(rows, thing):
    if not is_rest(thing, len(rows), (2, 3)):
        return False
    way, total = summed(rows, thing)
    return way == (0, 0) and total <= 0


def is_press(rows, bound, thing):
    if type(thing) is not tuple or len(thing) != 2 or not is_int(thing[0]) or thing[0] < 1:
        return False
    weight, rest = thing
    if not is_rest(rest, len(rows), (1, 2)):
        return False
    way, total = summed(rows, rest)
    d, number = bound
    return way == (VECTORS[d][0] * weight, VECTORS[d][1] * weight) and total <= surd(number) * weight


def is_paper(thing, word, many):
    return type(thing) is tuple and len(thing) == many and type(thing[0]) is str and thing[0] == word


def is_held(heap, thing):
    if is_paper(thing, "floor", 2):
        return is_let(thing[1]) and has_all(thing[1], heap)
    return is_paper(thing, "bars", 2) and is_bars(rows_for(heap), thing[1])


def is_word(heap, tile, thing):
    rows, sides = rows_for(heap), sides_of_lozenge(tile)
    if is_paper(thing, "never", 2):
        return is_bars(rows + sides, thing[1])
    if is_paper(thing, "sure", 2):
        return type(thing[1]) is tuple and len(thing[1]) == 4 and all(
            [is_press(rows, bound, part) for bound, part in zip(sides, thing[1])])
    if not is_paper(thing, "open", 3) or not is_let(thing[1]) or not is_let(thing[2]):
        return False
    both = has_all(thing[1], heap) and has_all(thing[2], heap)
    return both and has_tile(thing[1], tile) and not has_tile(thing[2], tile)


def is_tree(heap, absent, thing):
    return is_branch(rows_for(heap), absent, [], thing)


def is_branch(rows, absent, above, thing):
    if is_paper(thing, "bars", 2):
        return is_bars(rows, thing[1])
    if not is_paper(thing, "split", 3):
        return False
    k, branches = thing[1:]
    if not is_int(k) or k not in range(len(absent)) or k in above:
        return False
    sides = sides_of_lozenge(absent[k])
    if type(branches) is not tuple or len(branches) != 4:
        return False
    return all([is_branch(rows + [beyond(side)], absent, above + [k], branch)
                for side, branch in zip(sides, branches)])


def spoiled_number(number):
    """Other things in the place of a number."""
    if type(number) is Root:
        return [number + 1, number - Root(1, 0, 7), -number, number + Root(1, 0, 2), None, "1", float(number.top)]
    return [number + 1, number - 1, -number, number + 10 ** 30, True, False, None, str(number), float(number),
            Root(number, 0, 1), (number,)]


def spoiled(paper):
    """All that come of a paper of nested tuples by spoiling it at one place."""
    if isinstance(paper, (tuple, list)):
        kind = type(paper)
        other = list if kind is tuple else tuple
        found = [other(paper), kind([*paper, None]), kind([paper]), kind(paper[::-1]), kind()]
        for at in range(len(paper)):
            found.append(kind([*paper[:at], *paper[at + 1:]]))
            found.append(kind([*paper[:at], paper[at], *paper[at:]]))
            for part in spoiled(paper[at]):
                found.append(kind([*paper[:at], part, *paper[at + 1:]]))
        return found
    if isinstance(paper, str):
        return ["", paper.upper(), paper + " ", paper.encode(), None, 0, "floor", "bars", "never", "sure", "open", "split"]
    return spoiled_number(paper)
