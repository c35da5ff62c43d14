"""Fillings: how much of each column fits into a room, at the greatest gain."""

from shortbynarrow.amounts import lowest
from shortbynarrow.checks import is_list, is_whole_number
from shortbynarrow.errors import BadNumber, BadRow, OtherSize
from shortbynarrow.rows import Row


def _is_column(column):
    if not is_list(column):
        return False
    if not all([is_whole_number(entry) and entry >= 0 for entry in column]):
        return False
    return any([entry > 0 for entry in column])


def _check_columns(columns):
    if not is_list(columns) or len(columns) == 0:
        raise BadRow(-1)
    for place, column in enumerate(columns):
        if not _is_column(column):
            raise BadRow(place)


def _check_gains(gains, many):
    if not is_list(gains) or len(gains) != many:
        raise BadNumber("gains")
    if not all([is_whole_number(gain) and gain > 0 for gain in gains]):
        raise BadNumber("gains")


def fill(columns, gains, room):
    """Return the greatest total of a filling, its weights, and prices that show it."""
    _check_columns(columns)
    _check_gains(gains, len(columns))
    row = room if isinstance(room, Row) else Row(room)
    for column in columns:
        if len(column) != len(row):
            raise OtherSize(len(column))
    return best_filling(columns, gains, row)


def best_filling(columns, gains, room):
    """Return what `fill` does; here columns and gains may be any integers for which a total is greatest."""
    table = Table(columns, gains, room.tops)
    table.finish()
    weights, prices = table.weights(), table.prices()
    total = sum([gain * weight for gain, weight in zip(gains, weights)])
    bottom = table.bottom * room.bottom
    amounts = tuple([lowest(weight, bottom) for weight in weights])
    return lowest(total, bottom), amounts, Row(prices, table.bottom)


class Table:
    """A filling on its way to the greatest total.

    Each column has a number, and behind them each place of the room has one: that of what stays free
    there. The amounts of the numbers in `shown` are told by the rows, those of the numbers in `free`
    are zero. All entries are integers over one bottom; the last entry of a row is its amount. The last
    row, `gain`, tells by how much the total falls if an amount of `free` rises.
    """

    def __init__(self, columns, gains, room):
        self.many = len(columns)
        self.free = list(range(self.many))
        self.shown = list(range(self.many, self.many + len(room)))
        self.rows = [
            [column[place] for column in columns] + [space] for place, space in enumerate(room)
        ]
        self.gain = [-gain for gain in gains] + [0]
        self.bottom = 1

    def finish(self):
        """Change amounts until no change makes the total greater."""
        column = self.best_column()
        while column is not None:
            self.exchange(self.first_full(column), column)
            column = self.best_column()

    def best_column(self):
        """Return the place in `free` at which the total rises most steeply, None if it rises nowhere."""
        least = min(self.gain[:-1])
        return self.gain.index(least) if least < 0 else None

    def first_full(self, column):
        """Return the row whose amount is the first to come down to zero as the column rises."""
        best = []
        for place, row in enumerate(self.rows):
            if row[column] > 0:
                sign = self.compared(place, best[0], column) if best else -1
                if sign < 0:
                    best = [place]
                elif sign == 0:
                    best.append(place)
        return best[0] if len(best) == 1 else self.first_of_tied(best, column)

    def compared(self, place, other, column):
        """Return an integer below, at or above 0 as the one row is full before, with or after the other."""
        one, two = self.rows[place], self.rows[other]
        return one[-1] * two[column] - two[-1] * one[column]

    def first_of_tied(self, places, column):
        """Return the row that would be full first if each place of the room had a tiny bit more.

        The bits are taken to be ever tinier from place to place; so no row is ever full at the same
        time as another one, and the way to the greatest total can not go round in circles.
        """
        spots = {number: spot for spot, number in enumerate(self.free)}
        tied = places
        for number in range(self.many, self.many + len(self.rows)):
            if len(tied) == 1:
                break
            tied = self.least_bits(tied, [self.bit_of(place, number, spots) for place in tied], column)
        return tied[0]

    def bit_of(self, place, number, spots):
        """Return how much of the tiny bit of one place of the room is in the amount of a row."""
        if number in spots:
            return self.rows[place][spots[number]]
        return self.bottom if self.shown[place] == number else 0

    def least_bits(self, places, bits, column):
        """Return those of the rows whose bits are least, each divided by the entry of the column."""
        best = []
        least = (0, 1)
        for place, bit in zip(places, bits):
            entry = self.rows[place][column]
            sign = bit * least[1] - least[0] * entry if best else -1
            if sign < 0:
                best = [place]
                least = (bit, entry)
            elif sign == 0:
                best.append(place)
        return best

    def exchange(self, place, column):
        """Let a number of `free` and one of `shown` take each other's place."""
        main = self.rows[place]
        pivot = main[column]
        self.rows = [
            self.kept_row(main, column) if k == place else self.changed_row(row, main, column)
            for k, row in enumerate(self.rows)
        ]
        self.gain = self.changed_row(self.gain, main, column)
        self.shown[place], self.free[column] = self.free[column], self.shown[place]
        self.bottom = pivot

    def kept_row(self, main, column):
        """Return the row of the exchange itself."""
        return main[:column] + [self.bottom] + main[column + 1:]

    def changed_row(self, row, main, column):
        """Return another row; the divisions leave no rest, as all entries are determinants."""
        pivot, entry, bottom = main[column], row[column], self.bottom
        if entry == 0:
            return row if pivot == bottom else [one * pivot // bottom for one in row]
        made = [(one * pivot - entry * two) // bottom for one, two in zip(row, main)]
        made[column] = -entry
        return made

    def weights(self):
        """Return the weights of the columns, over the bottom times the bottom of the room."""
        found = [0] * self.many
        for number, row in zip(self.shown, self.rows):
            if number < self.many:
                found[number] = row[-1]
        return found

    def prices(self):
        """Return the prices of the places of the room, over the bottom."""
        found = [0] * len(self.rows)
        for number, price in zip(self.free, self.gain):
            if number >= self.many:
                found[number - self.many] = price
        return found
