"""Words that write shares, lines and wishes."""

SIGNS = {"least": ">=0", "above": ">0", "just": "=0"}


def show_share(one):
    """The word of a share."""
    top, bottom = one
    return str(top) if bottom == 1 else f"{top}/{bottom}"


def show_part(name, by):
    """The word of a part of a line, with its sign."""
    sign = "-" if by[0] < 0 else "+"
    return f"{sign}{show_share((abs(by[0]), by[1]))}*{name}"


def show_line(line):
    """The word of a line."""
    plain, parts = line
    return "".join([show_share(plain)] + [show_part(name, by) for name, by in parts])


def show_wish(wish):
    """The word of a wish."""
    word, line = wish
    return show_line(line) + SIGNS[word]
