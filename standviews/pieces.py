"""Pieces that are kept by changes, each once for all who need it."""

from standviews.answers import form_rows, picked
from standviews.bags import UNCHANGED, between, changed
from standviews.errors import NoPiece
from standviews.forms import columns_in, is_piece, just_within
from standviews.parts import parts_of
from standviews.plans import place_of, places_of
from standviews.rights import seen_rows
from standviews.showing import show_question
from standviews.stores import net
from standviews.worths import bag_of


def piece_rows(piece, columns, rows):
    """The piece's rows, by the columns and the rows of what is just within: of a see its table, else pieces."""
    if piece[0] == "see":
        return seen_rows(columns[0], rows[0], piece[2])
    return form_rows(piece, columns, rows)


def group_places(piece, columns):
    """For each of what is just within: the places of the worths by which its rows fall into groups.

    What the piece tells of the rows of one group, on both sides, hangs on no row of another one. Of a first all
    rows are one group; of those not named here each unlike row is one.
    """
    word = piece[0]
    if word == "first":
        return [[]]
    if word == "sums":
        return [places_of(columns[0], piece[1])]
    if word in ("join", "lacking"):
        return [[place_of(columns[0], piece[1])], [place_of(columns[1], piece[2])]]
    return [list(range(len(columns[0])))]


def touched_groups(places, changes):
    """The groups that these changes, each by its places, touch."""
    touched = {}
    for at, (gone, come) in zip(places, changes):
        for row in gone + come:
            touched[picked(row, at)] = True
    return touched


def rows_in(groups, at, rows):
    """Those of the rows that are, by these places, in one of the groups."""
    return tuple([row for row in rows if picked(row, at) in groups])


class KeptTable:
    """A table's rows, and their change by the last move."""

    def __init__(self, columns, rows):
        self.columns = columns
        self.rows = rows
        self.change = UNCHANGED

    def becomes(self, rows, change):
        """The rows are these now, by this change."""
        self.rows = rows
        self.change = change


class KeptPiece:
    """A piece's bag, and its change by the last move; within are the table or pieces just within, as kept."""

    def __init__(self, piece, columns, within):
        self.piece = piece
        self.columns = columns
        self.within = within
        self.rows = bag_of(self._told([inner.rows for inner in within]))
        self.change = UNCHANGED
        self.worked = 0
        # By how many of the needs it is kept.
        self.holders = 0

    def goes_on(self):
        """Goes on by what comes in from those within, that have moved; whether anything did."""
        changes = [inner.change for inner in self.within]
        if all([change == UNCHANGED for change in changes]):
            self.change = UNCHANGED
            return False
        self.change = self._change_by(changes)
        self.rows = changed(self.rows, self.change)
        self.worked += 1
        return True

    def _told(self, rows):
        """The piece's rows, where those of what is just within are these."""
        return piece_rows(self.piece, [inner.columns for inner in self.within], rows)

    def _change_by(self, changes):
        """The change, by those of what is just within: only the groups that these touch are looked at."""
        places = group_places(self.piece, [inner.columns for inner in self.within])
        groups = touched_groups(places, changes)
        now = [rows_in(groups, at, inner.rows) for at, inner in zip(places, self.within)]
        ahead = [changed(rows, (come, gone)) for rows, (gone, come) in zip(now, changes)]
        return between(self._told(ahead), self._told(now))


class Pieces:
    """The pieces that are needed, and all that are in these, kept over a store that moves."""

    def __init__(self, plan, store):
        self._plan = plan
        self._tables = [KeptTable(columns, rows) for (_, columns), rows in zip(plan, store)]
        # By their texts. Each kept one stands behind those within it, as no part goes ahead of what has it.
        self._kept = {}
        self._needed = {}
        self._total = 0

    def need(self, piece):
        """The piece is needed once more, and kept with all its parts."""
        self._keep(piece)
        for part in parts_of(piece):
            self._kept[show_question(part)].holders += 1
        text = show_question(piece)
        self._needed[text] = self._needed.get(text, 0) + 1

    def leave(self, piece):
        """The piece is needed once less; those of its parts that no needed one has are kept no more."""
        text = self._text(piece, self._needed)
        self._needed[text] -= 1
        if self._needed[text] == 0:
            del self._needed[text]
        for part in parts_of(piece):
            self._let_go(show_question(part))

    def move(self, store):
        """The tables are so now: each kept piece into which something comes is worked, those in it ahead."""
        nets = net(self._plan, [table.rows for table in self._tables], store)
        for table, rows, change in zip(self._tables, store, nets):
            table.becomes(rows, change)
        for kept in list(self._kept.values()):
            if kept.goes_on():
                self._total += 1

    def bag(self, piece):
        """The piece's bag by now."""
        return self._found(piece).rows

    def last(self, piece):
        """The piece's change by the last move."""
        return self._found(piece).change

    def works(self):
        """Of each kept piece, by text rising: (piece, how often it was worked since it is kept)."""
        kept = [self._kept[text] for text in sorted(self._kept)]
        return tuple([(each.piece, each.worked) for each in kept])

    def total(self):
        """How often any piece was worked so far."""
        return self._total

    def __len__(self):
        return len(self._kept)

    def _keep(self, piece):
        """The piece as it is kept, from now on where it wasn't."""
        text = show_question(piece)
        if text not in self._kept:
            columns = columns_in(self._plan, "see", piece)
            self._kept[text] = KeptPiece(piece, columns, self._within(piece))
        return self._kept[text]

    def _within(self, piece):
        """What is just within the piece, as kept: of a see its table."""
        if piece[0] == "see":
            return [self._tables[place_of(self._plan, piece[1])]]
        return [self._keep(inner) for inner in just_within(piece)]

    def _let_go(self, text):
        """One holder less of the piece of this text."""
        kept = self._kept[text]
        kept.holders -= 1
        if kept.holders == 0:
            del self._kept[text]

    def _text(self, piece, texts):
        """The piece's text; refused where it is none of these, or no piece."""
        if is_piece(self._plan, piece):
            text = show_question(piece)
            if text in texts:
                return text
        raise NoPiece()

    def _found(self, piece):
        """The piece as it is kept; refused where it isn't."""
        return self._kept[self._text(piece, self._kept)]
