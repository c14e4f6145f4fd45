"""Looks at modules, kept over edits."""

from wiretongue.looking import amiss_in, faces_of, tree_of, uses_of
from wiretongue.names import amiss_missing


class Looks:
    """What was looked at in modules in which nothing was found amiss."""

    def __init__(self):
        self._read = {}
        self._kept = {}

    def tree_now(self, name, text):
        """The tree of a module's text, read anew just where the text is another one."""
        ahead, tree = self._read.get(name, (None, None))
        return tree if text == ahead else tree_of(text)

    def look(self, design):
        """Look at the modules of which no look is kept: (these, what is amiss, trees).

        What is amiss stands by module, by stage; trees by module.
        """
        trees = {name: self.tree_now(name, text) for name, text in design}
        faces = faces_of(trees)
        looked, found, kept = [], {}, {}
        for name, text in design:
            uses = [] if trees[name] is None else uses_of(trees[name])
            # What a look hangs on; what isn't there is the same to it as what can't be read.
            seen = (text, [(module, faces.get(module)) for module in uses])
            if self._kept.get(name) == seen:
                found[name] = {"name": amiss_missing(trees[name], faces)}
                kept[name] = seen
            else:
                looked.append(name)
                found[name] = amiss_in(text, faces)
                if not any(list(found[name].values())):
                    kept[name] = seen
        self._read = {name: (text, trees[name]) for name, text in design}
        self._kept = kept
        return (tuple(looked), found, trees)
