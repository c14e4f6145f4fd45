"""What the names of one module stand for."""

SPOTS = ("in", "wire", "box", "cross")


class Scope:
    """A module's tree, beside the faces of the modules that it may use.

    The faces stand by name: of each module that is there its face, None where
    it can't be read.
    """

    def __init__(self, tree, faces):
        self.tree = tree
        self.faces = faces
        self.firsts = {}
        for number, row in enumerate(tree):
            self.firsts.setdefault(row[1], number)

    def has_name(self, number):
        """Whether a row has its name, since no row ahead is called so."""
        return self.firsts[self.tree[number][1]] == number

    def row_called(self, name):
        """The first row that is called so, or None."""
        if name not in self.firsts:
            return None
        return self.tree[self.firsts[name]]

    def is_kind(self, name, kinds):
        """Whether the first row that is called so is one of these kinds."""
        row = self.row_called(name)
        return row is not None and row[0] in kinds

    def face_used(self, use):
        """The face of a use's module, None where it isn't there or can't be read."""
        return self.faces.get(use[2])

    def out_called(self, use, name):
        """The first out so called of a use's module as its face tells it, or None."""
        face = self.face_used(use)
        outs = [] if face is None else [out for out in face[2] if out[0] == name]
        return outs[0] if outs else None

    def stands(self, word):
        """Whether a name in an expression stands for something, as far as can be told."""
        name, _, out = word.partition(".")
        if out == "":
            return self.is_kind(name, SPOTS)
        if not self.is_kind(name, ("use",)):
            return False
        use = self.row_called(name)
        return self.face_used(use) is None or self.out_called(use, out) is not None

    def width(self, word):
        """How wide a name is that stands, None where its module can't be read."""
        name, _, out = word.partition(".")
        row = self.row_called(name)
        if row[0] == "use":
            meant = self.out_called(row, out)
            return None if meant is None else meant[1]
        return 1 if row[0] == "cross" else row[2]

    def clock(self, word):
        """The clock that a name has that stands and is no wire's, or None."""
        name, _, out = word.partition(".")
        row = self.row_called(name)
        if row[0] == "use":
            meant = self.out_called(row, out)
            return None if meant is None or meant[2] is None else row[3][meant[2]]
        return row[2] if row[0] == "cross" else row[3]
