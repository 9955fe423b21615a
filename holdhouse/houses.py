"""Houses: their lines, stands, keys and rows."""

from holdhouse.checks import is_between, wrong_key, wrong_row, wrong_stand
from holdhouse.errors import InvalidIndex, InvalidKeys, InvalidNumber, InvalidRows, InvalidStands, InvalidText
from holdhouse.errors import WrongLine
from holdhouse.limits import MOST_KEYS, MOST_LINES, MOST_ROWS, MOST_STANDS

FEWEST_STANDS = 2


class House:
    """A house: what its lines do at each event is written in its rows."""

    def __init__(self, lines, stands, keys=(), rows=()):
        if not is_between(lines, 1, MOST_LINES):
            raise InvalidNumber(lines)
        check_stands(stands)
        check_keys(keys)
        check_rows(rows, stands, keys)
        self.line_count = lines
        self.stand_pairs = stands
        self.key_names = keys
        self.row_texts = rows
        self.text = house_text(lines, stands, keys, rows)

    @classmethod
    def read(cls, text):
        """The house with this text."""
        if not isinstance(text, str):
            raise InvalidText(text)
        pieces = text.split("\n")
        lines, keys = read_first_line(pieces[0])
        stands = read_stands(pieces[1:])
        # What ends the stands too early is the wrong line, be it another line or the end of the text.
        above = 1 + len(stands)
        if len(stands) < FEWEST_STANDS:
            raise WrongLine(above)
        rows = tuple(pieces[above:])
        at = wrong_row(rows[:MOST_ROWS], stands, keys)
        if at is not None:
            raise WrongLine(above + at)
        if len(rows) > MOST_ROWS:
            raise WrongLine(above + MOST_ROWS)
        return cls(lines, stands, keys, rows)

    @property
    def lines(self):
        """The number of lines."""
        return self.line_count

    @property
    def stands(self):
        """The pairs of a stand and its sound."""
        return self.stand_pairs

    @property
    def key_words(self):
        """The keys."""
        return self.key_names

    @property
    def rows(self):
        """The rows, as they are written."""
        return self.row_texts

    def changed(self, row, text):
        """The house with this text in the place of a row."""
        self.check_index(row)
        rows = (*self.row_texts[:row], text, *self.row_texts[row + 1:])
        # Only the new row can be wrong here, so the index that the House tells is its own.
        return House(self.line_count, self.stand_pairs, self.key_names, rows)

    def without(self, row):
        """The house without this row."""
        self.check_index(row)
        rows = self.row_texts[:row] + self.row_texts[row + 1:]
        return House(self.line_count, self.stand_pairs, self.key_names, rows)

    def check_index(self, row):
        """Raise an error if this is no index of a row."""
        if not is_between(row, 0, len(self.row_texts) - 1):
            raise InvalidIndex(row)

    def __len__(self):
        return len(self.row_texts)

    def __bool__(self):
        return True

    def __eq__(self, other):
        return isinstance(other, House) and self.text == other.text

    def __str__(self):
        return str(self.text)

    def __repr__(self):
        return f"House of {len(self.row_texts)} rows"


def check_stands(stands):
    """Raise an error if these are no stands of a house."""
    if not isinstance(stands, tuple) or not FEWEST_STANDS <= len(stands) <= MOST_STANDS:
        raise InvalidStands(None)
    at = wrong_stand(stands)
    if at is not None:
        raise InvalidStands(at)


def check_keys(keys):
    """Raise an error if these are no keys of a house."""
    if not isinstance(keys, tuple) or len(keys) > MOST_KEYS:
        raise InvalidKeys(None)
    at = wrong_key(keys)
    if at is not None:
        raise InvalidKeys(at)


def check_rows(rows, stands, keys):
    """Raise an error if these are no rows of a house with these stands and keys."""
    if not isinstance(rows, tuple) or len(rows) > MOST_ROWS:
        raise InvalidRows(None)
    at = wrong_row(rows, stands, keys)
    if at is not None:
        raise InvalidRows(at)


def house_text(lines, stands, keys, rows):
    """The text of a house with these lines, stands, keys and rows."""
    first = f"lines {lines}"
    if keys:
        first = first + ", keys " + " ".join(keys)
    return "\n".join([first, *[f"stand {stand} {sound}" for stand, sound in stands], *rows])


def read_first_line(piece):
    """The number of lines and the keys that this first line of a text tells."""
    opening, joint, rest = piece.partition(", keys ")
    keys = tuple(rest.split(" ")) if joint else ()
    for lines in range(1, MOST_LINES + 1):
        if opening == f"lines {lines}" and len(keys) <= MOST_KEYS and wrong_key(keys) is None:
            return lines, keys
    raise WrongLine(0)


def read_stands(pieces):
    """The stands in the first ones of these lines, as far as these lines are right."""
    stands = ()
    for piece in pieces:
        opening, *pair = piece.split(" ")
        more = (*stands, tuple(pair))
        if opening != "stand" or len(more) > MOST_STANDS or wrong_stand(more) is not None:
            return stands
        stands = more
    return stands
