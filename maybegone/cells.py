"""The cells of a run: what stands for them, what holds them, and which of them are there."""


class Cells:
    """Cells, numbered in the order in which they are made."""

    def __init__(self):
        self.stands = {}
        self.fields = []
        self.wishes = {}
        self.kept = {}
        self.cleared = {}

    def make(self):
        """Makes a cell and returns its number."""
        self.fields.append({})
        return len(self.fields) - 1

    def stand(self, name, cell):
        """Lets the name stand for the cell, or for nothing if it is None."""
        self.stands[name] = cell

    def cell_of(self, name):
        """The cell for which the name stands, or None."""
        return self.stands.get(name)

    def keep(self, cell):
        """Keeps the cell."""
        self.kept[cell] = True

    def wish(self, cell, word):
        """Gives the cell this wish."""
        self.wishes[cell] = word

    def fill(self, cell, field, held, strong):
        """Fills the field of the cell with the cell held."""
        self.fields[cell][field] = (held, strong)

    def cut(self, cell, field):
        """Empties the field of the cell, if it is filled."""
        self.fields[cell].pop(field, None)

    def held_in(self, cell, field):
        """The cell in the field, cleared or not, or None if it is not filled."""
        held, _ = self.fields[cell].get(field, (None, False))
        return held

    def wishing(self, word):
        """The cells with this wish, cleared ones too, in ascending order."""
        return sorted([cell for cell, wish in self.wishes.items() if wish == word])

    def is_there(self, cell):
        """Tells whether the cell is made and not cleared."""
        return cell < len(self.fields) and cell not in self.cleared

    def many_there(self):
        """The number of cells that are there."""
        return len(self.fields) - len(self.cleared)

    def strongly_held(self, cell):
        """The cells in the strong fields of the cell."""
        return [held for held, strong in self.fields[cell].values() if strong]

    def standing(self):
        """A dict whose keys are the cells for which a name stands, and those that are kept."""
        found = dict(self.kept)
        for cell in self.stands.values():
            if cell is not None:
                found[cell] = True
        return found

    def reached(self):
        """A dict whose keys are the reached cells."""
        left = list(self.standing())
        found = {}
        while left:
            cell = left.pop()
            if cell not in found:
                found[cell] = True
                left.extend(self.strongly_held(cell))
        return found

    def holders(self):
        """A dict from each strongly held cell to the cells that are there and hold it."""
        found = {}
        for cell in range(len(self.fields)):
            if cell not in self.cleared:
                for held in self.strongly_held(cell):
                    found.setdefault(held, []).append(cell)
        return found

    def comers(self, cells):
        """The cells that are there and come to one of these, which are there, in ascending order."""
        holders = self.holders()
        found = {}
        left = list(cells)
        while left:
            held = left.pop()
            if held not in found:
                found[held] = True
                left.extend(holders.get(held, []))
        return sorted(found)

    def clear_away(self, cells, moment):
        """Clears these cells, which are there, and all that come to them."""
        for comer in self.comers(cells):
            self.cleared[comer] = moment

    def cleared_pairs(self):
        """The ascending tuple of (moment, cell) for each cleared cell."""
        return tuple(sorted([(moment, cell) for cell, moment in self.cleared.items()]))
