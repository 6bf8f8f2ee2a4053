"""Bases of lattices in integers alone, the inner side of echelon.lattices (points 122 to 124).

The numbers d[k] are the determinants of the products of the first k rows with one another, and
shadows[i][k] is d[k + 1] times the number mu[i][k] of point 122. All of them are integers.
"""

from echelon.gauss import exchange


def product_of_rows(u, v):
    """Return the product of two rows of integers."""
    return sum([x * y for x, y in zip(u, v)])


def shadow_of(rows, d, shadows, row):
    """Return the shadows of a row on those before it, and at the end the next number of d."""
    line = []
    for j in range(len(rows) + 1):
        total = product_of_rows(row, rows[j] if j < len(rows) else row)
        other = shadows[j] if j < len(rows) else line
        for k in range(j):
            total = (d[k + 1] * total - line[k] * other[k]) // d[k]
        line.append(total)
    return line


def gram_schmidt(rows):
    """Return (d, shadows) of rows of integers, or None if they are dependent."""
    d = [1]
    shadows = []
    for i, row in enumerate(rows):
        line = shadow_of(rows[:i], d, shadows, row)
        if line[i] == 0:
            return None
        shadows.append(line)
        d.append(line[i])
    return d, shadows


def is_far(d, shadows, k):
    """Return whether the square of the row k is large enough beside that of the row before it."""
    return 4 * d[k + 1] * d[k - 1] >= 3 * d[k] * d[k] - 4 * shadows[k][k - 1] * shadows[k][k - 1]


def is_short_row(d, shadows, i):
    """Return whether the row i keeps the conditions of a reduced basis."""
    for k in range(i):
        if 2 * abs(shadows[i][k]) > d[k + 1]:
            return False
    return i == 0 or is_far(d, shadows, i)


def is_short(d, shadows):
    """Return whether the basis with these numbers is reduced."""
    for i in range(len(shadows)):
        if not is_short_row(d, shadows, i):
            return False
    return True


def are_reduced(rows):
    """Return whether rows are a reduced basis; they may be dependent."""
    d = [1]
    shadows = []
    for i, row in enumerate(rows):
        line = shadow_of(rows[:i], d, shadows, row)
        shadows.append(line)
        d.append(line[i])
        # Wrong rows are often so at once, and the numbers of the others are longer.
        if line[i] == 0 or not is_short_row(d, shadows, i):
            return False
    return True


class Basis:
    """Rows that are brought nearer to a reduced basis, by the algorithm of Lenstra, Lenstra, Lovasz.

    The rows are moves times those at first, and the columns of back are those of the inverse
    of moves.
    """

    def __init__(self, rows, d, shadows):
        many = len(rows)
        self.rows = [list(row) for row in rows]
        self.d = list(d)
        self.shadows = [list(line) for line in shadows]
        self.moves = [[1 if i == j else 0 for j in range(many)] for i in range(many)]
        self.back = [list(row) for row in self.moves]

    def shorten(self, k, i):
        """Take a multiple of the row i from the row k, so that its shadow there is small."""
        top = self.d[i + 1]
        q = (2 * self.shadows[k][i] + top) // (2 * top)
        if q:
            self.rows[k] = taken(self.rows[k], q, self.rows[i])
            self.moves[k] = taken(self.moves[k], q, self.moves[i])
            self.back[i] = taken(self.back[i], -q, self.back[k])
            less = taken(self.shadows[k][:i + 1], q, self.shadows[i])
            self.shadows[k] = less + self.shadows[k][i + 1:]

    def swap_down(self, k):
        """Exchange the rows k and k - 1."""
        exchange(self.rows, k, k - 1)
        exchange(self.moves, k, k - 1)
        exchange(self.back, k, k - 1)
        d, shadows = self.d, self.shadows
        side = shadows[k][k - 1]
        for j in range(k - 1):
            shadows[k][j], shadows[k - 1][j] = shadows[k - 1][j], shadows[k][j]
        lower = (d[k - 1] * d[k + 1] + side * side) // d[k]
        for i in range(k + 1, len(shadows)):
            line = shadows[i]
            old = line[k]
            line[k] = (d[k + 1] * line[k - 1] - side * old) // d[k]
            line[k - 1] = (lower * old + side * line[k]) // d[k + 1]
        d[k] = lower
        shadows[k - 1][k - 1] = lower

    def reduce_rows(self):
        """Make the rows a reduced basis."""
        k = 1
        while k < len(self.rows):
            self.shorten(k, k - 1)
            if is_far(self.d, self.shadows, k):
                for i in range(k - 2, -1, -1):
                    self.shorten(k, i)
                k += 1
            else:
                self.swap_down(k)
                k = max(k - 1, 1)


def taken(row, q, other):
    """Return a row less q times another one."""
    return [x - q * y for x, y in zip(row, other)]
