"""A Stand: modules kept over edits, and the last paper that was made of them."""

from wiretongue.beats import told
from wiretongue.errors import NoName, NoPaper, NoPath, NoText
from wiretongue.flat import flat_of
from wiretongue.kinds import DELAYS, TABLE, TOP, TURNS
from wiretongue.laying import laid
from wiretongue.looking import refuse
from wiretongue.looks import Looks
from wiretongue.nets import net_of
from wiretongue.slowest import slowest
from wiretongue.turns import turned
from wiretongue.waves import Waves
from wiretongue.words import is_name


def paper_of(flat, turns, table):
    """A joined paper of a flat; or NoRoom."""
    net = net_of(flat)
    for turn in turns:
        net = turned(net, turn)
    return (net, laid(net, table))


class Stand:
    """A design that is edited, and made to papers."""

    def __init__(self, design=(), *, top=TOP, turns=TURNS, table=TABLE, delays=DELAYS):
        self._texts = dict(design)
        self._options = (top, turns, table, delays)
        self._looks = Looks()
        self._looked = ()
        self._last = None

    def put(self, name, text):
        """A module comes, or its text is another one; NoName, NoText."""
        if not is_name(name):
            raise NoName(name)
        if not isinstance(text, str):
            raise NoText((0, 0))
        self._texts[name] = text

    def out(self, name):
        """A module goes; NoName where it isn't there."""
        # What isn't a text may be no key at all.
        if not isinstance(name, str) or name not in self._texts:
            raise NoName(name)
        del self._texts[name]

    def make(self):
        """A joined paper of the flat of the top; NoName, Fault, Nested, Ring, NoRoom."""
        top, turns, table, _ = self._options
        self._looked = ()
        if top not in self._texts:
            raise NoName(top)
        design = self.design()
        self._looked, found, trees = self._looks.look(design)
        refuse(found, trees)
        flat, whence = flat_of(design, top)
        self._last = (design, flat, whence, paper_of(flat, turns, table))
        return self.paper()

    def made(self):
        """The modules at which the last make looked, rising."""
        return self._looked

    def _made_last(self):
        """(design, flat, whence, paper) of the last make that wasn't refused; NoPaper."""
        if self._last is None:
            raise NoPaper()
        return self._last

    def paper(self):
        """The last joined paper."""
        return self._made_last()[3]

    def flat(self):
        """The flat of the last paper."""
        return self._made_last()[1]

    def whence(self, path):
        """(module, row) from which a path of the last flat came; NoPath."""
        _, flat, whence, _ = self._made_last()
        paths = [row[1] for row in flat]
        if path not in paths:
            raise NoPath(path)
        return whence[paths.index(path)]

    def run(self, beats):
        """For each beat what the outs of the last flat tell."""
        return told(self.flat(), beats)

    def waves(self, beats):
        """Waves of the last paper."""
        return Waves(self.flat(), self.paper()[0], beats)

    def slowest(self, clock):
        """The slowest way of a clock in the last paper."""
        net, laying = self.paper()
        return slowest(net, laying, clock, delays=self._options[3])

    def led(self, clock):
        """The names at each gate of a clock's slowest way."""
        waves = self.waves(())
        return tuple([waves.names_at(g) for g in self.slowest(clock)[1]])

    def design(self):
        """The modules, rising."""
        return tuple(sorted(self._texts.items()))

    def options(self):
        """(top, turns, table, delays)."""
        return self._options

    def stale(self):
        """Whether the design is another one than that of the last paper."""
        return self._last is None or self._last[0] != self.design()

    def __len__(self):
        return len(self._texts)

    def __eq__(self, other):
        if not isinstance(other, Stand):
            return False
        return self.design() == other.design() and self._options == other._options

    def __str__(self):
        rows = []
        for name, text in self.design():
            rows.append("module " + name)
            if text != "":
                rows.append(text)
        return "\n".join(rows)
