"""What deltas do, worked out in other ways than the program does it."""


def random_rows(source, size, most=8, first_char=97):
    """Rows for a text of so many characters, in which rows of nothing and neighbors of the same word occur."""
    rows = []
    left = size
    while left > 0 or source.randrange(2):
        word = source.choice(["keep", "drop", "put", "keep"])
        if word == "put":
            rows.append((word, [source.randrange(first_char, first_char + 26) for _ in range(source.randint(0, 3))]))
        else:
            many = source.randint(0, min(left, most))
            rows.append((word, many))
            left -= many
    return rows


def normal_rows(rows):
    """The normal form, step by step: a put moves ahead of a drop directly ahead of it, until there is none."""
    steps = []
    for word, what in rows:
        steps += [("put", char) for char in what] if word == "put" else [(word, None)] * what
    at = 0
    while at + 1 < len(steps):
        if steps[at][0] == "drop" and steps[at + 1][0] == "put":
            steps[at], steps[at + 1] = steps[at + 1], steps[at]
            at = max(at - 1, 0)
        else:
            at += 1
    return grouped(steps)


def grouped(steps):
    found = []
    for word, char in steps:
        if not found or found[-1][0] != word:
            found.append((word, [] if word == "put" else 0))
        if word == "put":
            found[-1][1].append(char)
        else:
            found[-1] = (word, found[-1][1] + 1)
    return found


def changed(rows, chars):
    """The characters after rows that are carried out one after the other."""
    found = []
    at = 0
    for word, what in rows:
        if word == "put":
            found += what
        else:
            found += chars[at:at + what] if word == "keep" else []
            at += what
    return found


def rows_to(before, after):
    """The rows from distinct items to others: what is in both is kept."""
    steps = []
    at = 0
    for item in after:
        if item in before:
            steps += [("drop", None)] * (before.index(item) - at) + [("keep", None)]
            at = before.index(item) + 1
        else:
            steps.append(("put", item))
    steps += [("drop", None)] * (len(before) - at)
    return grouped(steps)


def distinct_chars(source, most):
    """A list of at most so many distinct characters of all widths, none of them a capital letter."""
    pool = [first + at for first in [97, 233, 8364, 128512] for at in range(20)]
    return source.sample(pool, source.randint(0, most))
