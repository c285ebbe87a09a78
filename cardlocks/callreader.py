"""Takes the calls out of the one list in which they stand."""


class Call:

    def __init__(self, scalars, rows):
        self.scalars = scalars
        self.rows = rows


class CallReader:

    def __init__(self, calls):
        self.calls = calls
        self.place = 0

    def at_end(self):
        return self.place >= len(self.calls)

    def take_number(self):
        number = self.calls[self.place]
        self.place += 1
        return number

    def take_row(self):
        length = self.take_number()
        start = self.place
        self.place += length
        return self.calls[start:self.place]

    def take_call(self, scalar_count, row_count):
        scalars = [self.take_number() for turn in range(scalar_count)]
        rows = [self.take_row() for turn in range(row_count)]
        return Call(scalars, rows)
