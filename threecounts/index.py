"""An index keeps a text that is changed in a tree of blocks, and finds places by looking at few of them."""

from threecounts.errors import BadPlace, MidChar
from threecounts.lines import LINE_FEED, RETURN
from threecounts.places import fitting
from threecounts.texts import Text, char_width, check_chars, check_kind, check_text, total_width
from threecounts.validation import KINDS, is_integer

MOST_IN_BLOCK = 8
NOTHING = {"bytes": 0, "units": 0, "chars": 0, "lines": 0}


class Block:
    """Some characters, and the counts of the characters and of the ends of lines before it and up to its end."""

    def __init__(self, points, starts, line_ends):
        self.points = points
        self.starts = dict(starts)
        # After how many characters of the block a line ends.
        self.line_ends = line_ends
        self.stops = {kind: starts[kind] + total_width(points, kind) for kind in KINDS}
        self.stops["lines"] = starts["lines"] + len(line_ends)

    def bounds(self):
        """Return (start, end): the numbers, in characters, of the places before and after the block."""
        return (self.starts["chars"], self.stops["chars"])


class Branch:
    """A block in the tree, with the trees of blocks to its left and to its right, or None."""

    def __init__(self, block, left, right):
        self.block = block
        self.left = left
        self.right = right


class Index:
    """Keeps the characters of a text, which can be changed, in a tree of blocks."""

    def __init__(self, text):
        check_text(text)
        self.build(pieces_of(text.chars()))

    def build(self, pieces):
        """Build the blocks and their tree anew from the lists of the characters of all blocks."""
        self.row = blocks_of(pieces)
        self.root = tree_of(self.row)
        self.stops = dict(NOTHING)
        if len(self.row) > 0:
            self.stops = self.row[-1].stops
        self.way = []

    def text(self):
        """Return the text."""
        return Text(all_points(self.row))

    def count(self, kind):
        """Return the count of the text in a kind."""
        check_kind(kind)
        return self.stops[kind]

    def lines(self):
        """Return the number of the lines."""
        return self.stops["lines"] + 1

    def blocks(self):
        """Return the list of the blocks from left to right, each as a tuple (start, end)."""
        return [block.bounds() for block in self.row]

    def height(self):
        """Return the greatest number of blocks on a way from the root down."""
        number = 0
        branch = self.root
        # No left tree is lower than the right one beside it.
        while branch is not None:
            number = number + 1
            branch = branch.left
        return number

    def __eq__(self, other):
        return isinstance(other, Index) and all_points(self.row) == all_points(other.row)

    def find(self, number, kind):
        """Return the numbers, in bytes, units and characters, of the place with a number in a kind."""
        check_kind(kind)
        if not is_integer(number, 0, self.stops[kind]):
            raise BadPlace(number)
        way = way_to(self.root, kind, number)
        found = (0, 0, 0)
        if len(way) > 0:
            found = numbers_in(way[-1], number, kind)
        self.way = way
        return found

    def line_of(self, chars):
        """Return the index of the line in which the place after so many characters is."""
        if not is_integer(chars, 0, self.stops["chars"]):
            raise BadPlace(chars)
        self.way = way_to(self.root, "chars", chars)
        if len(self.way) == 0:
            return 0
        block = self.way[-1]
        ahead = chars - block.starts["chars"]
        return block.starts["lines"] + len([end for end in block.line_ends if end <= ahead])

    def line_start(self, line):
        """Return the number, in characters, of the place before a line."""
        if not is_integer(line, 0, self.stops["lines"]):
            raise BadPlace(line)
        self.way = []
        if line == 0:
            return 0
        self.way = way_to(self.root, "lines", line)
        block = self.way[-1]
        return block.starts["chars"] + block.line_ends[line - block.starts["lines"] - 1]

    def looked(self):
        """Return the list of the blocks at which the newest call that found something has looked."""
        return [block.bounds() for block in self.way]

    def replace(self, start, end, chars):
        """Put characters in the place of those between two places, told in characters."""
        if not is_integer(start, 0, self.stops["chars"]):
            raise BadPlace(start)
        if not is_integer(end, start, self.stops["chars"]):
            raise BadPlace(end)
        check_chars(chars)
        self.build(pieces_after([block.points for block in self.row], start, end, list(chars)))


def pieces_of(chars):
    """Return the list of the lists of the characters of as few blocks as possible, all about equally long."""
    cuts = cuts_for(len(chars))
    return [chars[start:end] for start, end in zip(cuts, cuts[1:]) if start < end]


def cuts_for(size):
    """Return the places before, between and after the blocks that so many characters make."""
    many = max(1, (size + MOST_IN_BLOCK - 1) // MOST_IN_BLOCK)
    return [size * at // many for at in range(many + 1)]


def pieces_after(pieces, start, end, chars):
    """Return the lists of the characters of all blocks after a change; those far from it stay."""
    before = []
    behind = []
    head = []
    tail = []
    at = 0
    for piece in pieces:
        stop = at + len(piece)
        if stop <= start:
            before.append(piece)
        elif at >= end:
            behind.append(piece)
        else:
            # The change begins or ends within this block, or drops it.
            if at < start:
                head = piece[:start - at]
            tail = piece[end - at:]
        at = stop
    return mended(before, head + chars + tail, behind)


def mended(before, middle, behind):
    """Return the lists of all blocks, the middle joined with its neighbors as long as these are too short."""
    while len(before) > 0 and len(before[-1]) + first_size(middle) <= MOST_IN_BLOCK:
        middle = before[-1] + middle
        before = before[:-1]
    while len(behind) > 0 and len(behind[0]) + last_size(middle) <= MOST_IN_BLOCK:
        middle = middle + behind[0]
        behind = behind[1:]
    return before + pieces_of(middle) + behind


def first_size(chars):
    """Return the size of the first block that some characters make, 0 if they make none."""
    return cuts_for(len(chars))[1]


def last_size(chars):
    """Return the size of the last block that some characters make, 0 if they make none."""
    return len(chars) - cuts_for(len(chars))[-2]


def blocks_of(pieces):
    """Return the list of the blocks with these characters."""
    blocks = []
    starts = dict(NOTHING)
    for at, piece in enumerate(pieces):
        following = pieces[at + 1] if at + 1 < len(pieces) else []
        block = Block(piece, starts, line_ends_in(piece, following))
        blocks.append(block)
        starts = block.stops
    return blocks


def line_ends_in(chars, following):
    """Return after how many of some characters a line ends, if these other ones follow them."""
    whole = chars + following
    return [at + 1 for at in range(len(chars)) if ends_line(whole[at:at + 2])]


def ends_line(chars):
    """Tell whether a line ends directly behind the first of some characters."""
    return chars[0] == LINE_FEED or (chars[0] == RETURN and chars[1:] != [LINE_FEED])


def tree_of(blocks):
    """Return the branch at the root of a tree of blocks, None if there are none."""
    if len(blocks) == 0:
        return None
    middle = len(blocks) // 2
    return Branch(blocks[middle], tree_of(blocks[:middle]), tree_of(blocks[middle + 1:]))


def way_to(root, scale, number):
    """Return the blocks from the root down to the one that begins before a number, and ends at it or behind it.

    The number 0 leads to the first block. The scale is a kind, or "lines" if ends of lines are counted.
    """
    way = []
    branch = root
    while branch is not None:
        block = branch.block
        way.append(block)
        if number <= block.starts[scale]:
            branch = branch.left
        elif number > block.stops[scale]:
            branch = branch.right
        else:
            branch = None
    return way


def numbers_in(block, number, kind):
    """Return the three numbers of the place with a number in a kind that is in a block."""
    start = block.starts[kind]
    ahead, size = fitting(block.points, number - start, kind)
    if start + size < number:
        raise MidChar(number, start + size, start + size + char_width(block.points[ahead], kind))
    return tuple([block.starts[each] + total_width(block.points[:ahead], each) for each in KINDS])


def all_points(blocks):
    """Return the list of the characters of several blocks."""
    return [char for block in blocks for char in block.points]
