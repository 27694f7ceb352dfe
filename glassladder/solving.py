"""Of wishes that are known to be such: numbers that grant them all, or shares that bar them.

Each wish gets a slack: its line's worth in whole numbers, less one where it must be above nought. All
plain shares are times a scale of one or more, which has a slack, too; so what is above nought can be
made one or more, and the names' numbers over the scale grant the wishes. A tableau tells slacks by
other ones, which are nought for now, and by names. A row that comes to less than nought is swapped
with a column that can lift it; where there is none, that row tells the shares that bar.
"""

from glassladder.shares import divisor, reduced

# Keys of rows and columns: wishes' slacks have the wishes' numbers, the slack of the scale the number
# behind them, names those behind that. PLAIN is what a row comes to while all columns are nought.
PLAIN = -1
# A row that keeps swaps from going in a ring: none of its numbers ever is below nought.
COSTS = -2
# So many rows are chosen by how far they are below nought, which is quicker but need not end.
QUICK = 2000


class Tableau:
    """Rows of whole numbers, each over a scale: what its key comes to by the columns."""

    def __init__(self, rows, fixed):
        self.rows = rows
        self.scales = {key: 1 for key in rows}
        # The scale of now is a determinant of the first rows: so no division below leaves anything over,
        # and a row that nothing touches can be brought to it later on.
        self.scale = 1
        self.fixed = fixed
        self.freed = []

    def fresh(self, key):
        """The row, brought to the scale of now."""
        old = self.scales[key]
        if old != self.scale:
            self.rows[key] = {column: by * self.scale // old for column, by in self.rows[key].items()}
            self.scales[key] = self.scale
        return self.rows[key]

    def leave_out(self, key):
        """Takes the row out of the tableau."""
        del self.rows[key]
        del self.scales[key]

    def turn(self, key, column):
        """Makes the key a column; told is the column's row, which isn't put into the tableau."""
        chosen = self.fresh(key)
        self.leave_out(key)
        pivot = chosen.pop(column)
        sign = 1 if pivot > 0 else -1
        for other in list(self.rows):
            if column in self.rows[other]:
                row = self.fresh(other)
                factor = sign * row.pop(column)
                self.rows[other] = mixed(row, abs(pivot), chosen, factor, self.scale)
                self.rows[other][key] = factor
                self.scales[other] = abs(pivot)
        turned = {other: -sign * by for other, by in chosen.items()}
        turned[key] = sign * self.scale
        self.scale = abs(pivot)
        return turned

    def swap(self, key, column):
        """Makes the key a column, and the column a row."""
        self.rows[column] = self.turn(key, column)
        self.scales[column] = self.scale

    def free(self, key, name):
        """Makes the key a column in the stead of a name, which may be any number and so needs no row."""
        row = self.turn(key, name)
        self.freed.append((name, row, self.scale))
        if not self.fixed[key]:
            self.fresh(COSTS)[key] = self.scale

    def name_in(self, row):
        """A name among the row's columns, or None."""
        for column in row:
            if column >= len(self.fixed):
                return column
        return None

    def lifting(self, row):
        """The column that lifts the row for the least cost, the least one of several, or None."""
        costs = self.fresh(COSTS)
        best = None
        for column, by in row.items():
            if column >= 0 and by > 0 and not self.fixed[column]:
                if best is None or is_cheaper(costs, row, column, best):
                    best = column
        return best

    def lowest(self):
        """The key of the row that is farthest below nought, or None."""
        best = None
        depth = 0
        for key in self.rows:
            here = self.rows[key].get(PLAIN, 0) * self.scale // self.scales[key]
            if key >= 0 and here < depth:
                best = key
                depth = here
        return best

    def first(self):
        """The least key of a row that is below nought, or None."""
        return min([key for key in self.rows if key >= 0 and self.rows[key].get(PLAIN, 0) < 0], default=None)


def mixed(row, by, other, factor, scale):
    """The row, times a number, less the other one, times a factor, over the scale; noughts are left out."""
    come_to = {column: value * by for column, value in row.items()}
    for column, value in other.items():
        come_to[column] = come_to.get(column, 0) - value * factor
    return {column: value // scale for column, value in come_to.items() if value}


def is_cheaper(costs, row, one, other):
    """Whether a column lifts the row for less than another one, or for as much and is less itself."""
    gain = costs.get(other, 0) * row[one] - costs.get(one, 0) * row[other]
    return gain > 0 or gain == 0 and one < other


def common_bottom(line):
    """The least number by which all shares of a line come to whole ones."""
    bottom = line[0][1]
    for name, by in line[1]:
        bottom = bottom // divisor(bottom, by[1]) * by[1]
    return bottom


def first_row(wish, bottom, columns, scale):
    """A wish's slack by names and by the slack of the scale."""
    word, line = wish
    plain = line[0][0] * bottom // line[0][1]
    row = {columns[name]: by[0] * bottom // by[1] for name, by in line[1]}
    if plain != 0:
        row[scale] = plain
    # The scale is one more than its slack.
    less = plain - 1 if word == "above" else plain
    if less != 0:
        row[PLAIN] = less
    return row


def first_tableau(wishes, names, bottoms):
    """The tableau of the wishes' slacks by names."""
    many = len(wishes)
    columns = {name: many + 1 + at for at, name in enumerate(names)}
    rows = {at: first_row(wish, bottoms[at], columns, many) for at, wish in enumerate(wishes)}
    rows[COSTS] = {many: 1}
    return Tableau(rows, [word == "just" for word, line in wishes] + [False])


def settled(tableau):
    """Makes the slacks of all `just` columns, or tells the first one that can't be nought."""
    for key, fixed in enumerate(tableau.fixed):
        if fixed:
            row = tableau.fresh(key)
            name = tableau.name_in(row)
            if name is not None:
                tableau.free(key, name)
            elif PLAIN in row:
                return key
            else:
                tableau.leave_out(key)
    return None


def lifted(tableau):
    """Lifts all rows to nought or more, or tells one that can't be."""
    swaps = 0
    key = tableau.lowest()
    while key is not None:
        row = tableau.fresh(key)
        name = tableau.name_in(row)
        if name is not None:
            tableau.free(key, name)
        else:
            column = tableau.lifting(row)
            if column is None:
                return key
            tableau.swap(key, column)
        swaps += 1
        key = tableau.lowest() if swaps < QUICK else tableau.first()
    return None


def barring_shares(tableau, key, bottoms):
    """The shares that bar all wishes, by a row that can't be what it should."""
    row = tableau.fresh(key)
    sign = -1 if row[PLAIN] > 0 else 1
    shares = [-sign * row.get(at, 0) for at in range(len(bottoms))]
    if key < len(bottoms):
        shares[key] = sign * tableau.scale
    tops = [by * bottom for by, bottom in zip(shares, bottoms)]
    common = 0
    for top in tops:
        common = divisor(common, top)
    return [(top // common, 1) for top in tops]


def granting_numbers(tableau, names):
    """The numbers of all names, columns being nought."""
    worths = {PLAIN: tableau.scale}
    for key in list(tableau.rows):
        worths[key] = tableau.fresh(key).get(PLAIN, 0)
    # A name was freed by columns of its time: of these, those that are names were freed later on.
    for name, row, scale in tableau.freed[::-1]:
        worths[name] = sum([by * worths.get(column, 0) for column, by in row.items()]) // scale
    many = len(tableau.fixed)
    scale_now = tableau.scale + worths.get(many - 1, 0)
    return {name: reduced(worths.get(many + at, 0), scale_now) for at, name in enumerate(names)}


def names_in(wishes):
    """All names in the wishes, rising."""
    return sorted({name for word, line in wishes for name, by in line[1]})


def searched(wishes, names, bottoms):
    """A tableau in which all rows are what they should, and None, or one and the key of a row that can't be."""
    tableau = first_tableau(wishes, names, bottoms)
    key = settled(tableau)
    if key is None:
        key = lifted(tableau)
    return (tableau, key)


def is_solvable(wishes):
    """Whether some numbers grant all the wishes."""
    bottoms = [common_bottom(line) for word, line in wishes]
    return searched(wishes, names_in(wishes), bottoms)[1] is None


def witness_of(wishes):
    """Numbers that grant all the wishes, or None."""
    names = names_in(wishes)
    tableau, key = searched(wishes, names, [common_bottom(line) for word, line in wishes])
    return granting_numbers(tableau, names) if key is None else None


def solved(wishes):
    """("numbers", numbers) by which all the wishes are granted, or ("barred", shares) that bar them."""
    names = names_in(wishes)
    bottoms = [common_bottom(line) for word, line in wishes]
    tableau, key = searched(wishes, names, bottoms)
    if key is None:
        return ("numbers", granting_numbers(tableau, names))
    return ("barred", barring_shares(tableau, key, bottoms))
