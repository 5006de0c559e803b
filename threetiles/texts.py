"""Numbers, heaps, floors and programs as texts."""

from threetiles.errors import BadNumber, BadProgram, BadText
from threetiles.floors import Floor, check_floor
from threetiles.heaps import MOST_TILES, check_heap
from threetiles.programs import MOST_DEEP, MOST_STATEMENTS, check_program
from threetiles.roots import Root, as_root, is_number
from threetiles.tiles import is_tile

# The words of the rows that have a number, with the greatest one.
MOST_BEHIND = {"turn": 7, "ask": 7, "again": 60}

OPENING = ("ask", "again", "else")


def check_text(text):
    """Raises what is due for what is no string."""
    if not isinstance(text, str):
        raise BadText(-1)


def rows_in(text):
    """The list of the rows of a text; the empty one has none."""
    return [] if text == "" else text.split("\n")


def integer_text(number):
    """The text of an integer."""
    blocks = []
    rest = abs(number)
    # Python refuses to write very long integers at once.
    while rest >= 10 ** 64:
        blocks.append(str(rest % 10 ** 64).zfill(64))
        rest = rest // 10 ** 64
    blocks.append(str(rest))
    text = "".join(blocks[::-1])
    return "-" + text if number < 0 else text


def digits_number(digits):
    """The integer of a row of digits."""
    number = 0
    # Python refuses to read very long integers at once, too.
    for at in range(0, len(digits), 64):
        block = digits[at:at + 64]
        number = number * 10 ** (len(block) % 65) + int(block)
    return number


def signed(text):
    """The integer that a text tells, perhaps with a sign or noughts too many, or None if it tells none."""
    digits = text[1:] if text[:1] in ("+", "-") else text
    if not digits.isdecimal():
        return None
    number = digits_number(digits)
    return -number if text[:1] == "-" else number


def integer_of(text):
    """The integer whose text it is, or None."""
    number = signed(text)
    return number if number is not None and integer_text(number) == text else None


def times_r(root):
    """The text of an integer above 0 times r."""
    return "r" if root == 1 else integer_text(root) + "r"


def top_text(top, root):
    """The text of top + root * r."""
    if root == 0:
        return integer_text(top)
    far = times_r(abs(root))
    if top == 0:
        return "-" + far if root < 0 else far
    return integer_text(top) + ("-" if root < 0 else "+") + far


def number_text(number):
    """The text of a number."""
    if not is_number(number):
        raise BadNumber(number)
    root = as_root(number)
    text = top_text(root.top, root.root)
    return text if root.bottom == 1 else text + "/" + integer_text(root.bottom)


def parts_of_top(text):
    """The tuple (top, root) that a text tells, perhaps not in the right form; None for what it does not tell."""
    if not text.endswith("r"):
        return (signed(text), 0)
    body = text[:-1]
    at = max(body.rfind("+"), body.rfind("-"), 0)
    top = 0 if at == 0 else signed(body[:at])
    times = body[at:]
    return (top, signed(times + "1" if times in ("", "+", "-") else times))


def number_of(text):
    """The Root that a text tells, perhaps not in the right form, or None if it tells none."""
    above, line, below = text.partition("/")
    top, root = parts_of_top(above)
    bottom = 1 if line == "" else signed(below)
    if top is None or root is None or bottom is None or bottom == 0:
        return None
    return Root(top, root, bottom)


def read_number(text):
    """The Root whose text it is."""
    check_text(text)
    number = number_of(text)
    # There is one text for each number, so that this one is right if it is written again.
    if number is None or number_text(number) != text:
        raise BadText(0)
    return number


def write_heap(heap):
    """The text of a heap."""
    check_heap(heap)
    return "\n".join([" ".join(["tile"] + [integer_text(part) for part in corner + (i, j)]) for corner, i, j in heap])


def tile_of(row):
    """The tile that a row tells, or None."""
    words = row.split(" ")
    if len(words) != 7 or words[0] != "tile":
        return None
    numbers = [integer_of(word) for word in words[1:]]
    tile = (tuple(numbers[:4]), numbers[4], numbers[5])
    return tile if is_tile(tile) else None


def read_heap(text):
    """The tuple of the tiles of a heap whose text it is."""
    check_text(text)
    found = []
    for index, row in enumerate(rows_in(text)):
        tile = tile_of(row)
        if tile is None or index == MOST_TILES:
            raise BadText(index)
        found.append(tile)
    return tuple(found)


def write_floor(floor):
    """The text of a floor."""
    check_floor(floor)
    return " ".join(["floor"] + [number_text(number) for number in floor.shift])


def read_floor(text):
    """The floor whose text it is."""
    check_text(text)
    words = text.split(" ")
    if len(words) != 3 or words[0] != "floor":
        raise BadText(0)
    return Floor((read_number(words[1]), read_number(words[2])))


def rows_of_block(block, ahead):
    """The list of the rows of a block, behind blanks."""
    rows = []
    for statement in block:
        rows.append(ahead + " ".join([statement[0]] + [str(n) for n in statement[1:2]]))
        if statement[0] in ("ask", "again"):
            rows.extend(rows_of_block(statement[2], ahead + "  "))
        if statement[0] == "ask" and len(statement[3]) > 0:
            rows.append(ahead + "else")
            rows.extend(rows_of_block(statement[3], ahead + "  "))
    return rows


def write_program(program):
    """The text of a program."""
    check_program(program)
    return "\n".join(rows_of_block(program, ""))


def blanks_of(row):
    """The number of blanks at the beginning of a row."""
    return len(row) - len(row.lstrip(" "))


def row_parts(row):
    """The tuple (level, word, n) of a row of a program, n None where it has none; None if it is no such row."""
    blanks = blanks_of(row)
    word, blank, number = row[blanks:].partition(" ")
    if blanks % 2 == 1:
        return None
    if word in ("go", "else") and blank == "":
        return (blanks // 2, word, None)
    n = integer_of(number)
    if word not in MOST_BEHIND or n is None or not 0 <= n <= MOST_BEHIND[word]:
        return None
    return (blanks // 2, word, n)


def may_stand(heads, level, word):
    """Whether a row may stand behind others; heads are the last words of the levels down to the row ahead."""
    most = len(heads) - 1
    if len(heads) == 0 or heads[-1] in OPENING:
        most = most + 1
    if level > most:
        return False
    return word != "else" or (level < len(heads) and heads[level] == "ask")


def parted_rows(rows):
    """The list of the parts of the rows of a program, none of which is wrong."""
    heads = []
    found = []
    for index, row in enumerate(rows):
        parts = row_parts(row)
        if parts is None or not may_stand(heads, parts[0], parts[1]):
            raise BadText(index)
        level, word, n = parts
        if word == "else" and (index + 1 == len(rows) or blanks_of(rows[index + 1]) <= blanks_of(row)):
            raise BadText(index)
        heads = heads[:level] + [word]
        found.append(parts)
    return found


def end_within(parts, at):
    """The index behind the rows that are farther in than a row and come at once behind it."""
    end = at + 1
    while end < len(parts) and parts[end][0] > parts[at][0]:
        end = end + 1
    return end


def block_of(parts):
    """The block of rows, the first one of which is as far in as any of them."""
    block = []
    at = 0
    while at < len(parts):
        level, word, n = parts[at]
        end = end_within(parts, at)
        inner = block_of(parts[at + 1:end])
        at = end
        if word == "ask":
            other = ()
            if at < len(parts) and parts[at][1] == "else":
                end = end_within(parts, at)
                other = block_of(parts[at + 1:end])
                at = end
            block.append((word, n, inner, other))
        elif word == "again":
            block.append((word, n, inner))
        else:
            block.append((word,) if n is None else (word, n))
    return tuple(block)


def read_program(text):
    """The program whose text it is."""
    check_text(text)
    parts = parted_rows(rows_in(text))
    # Levels are numbered from 0 on, and an else is no statement.
    if len([word for level, word, n in parts if word != "else"]) > MOST_STATEMENTS:
        raise BadProgram()
    if any([level >= MOST_DEEP for level, word, n in parts]):
        raise BadProgram()
    return block_of(parts)
