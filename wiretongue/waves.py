"""What a net tells of the names of its flat, beat by beat."""

from wiretongue.errors import NoPath
from wiretongue.flatrows import rows_of
from wiretongue.gates import gate_waves
from wiretongue.worths import worths_of


class Waves:
    """What names are by a net alone, in some beats."""

    def __init__(self, flat, net, beats):
        self._flat = flat
        self._net = net
        self._beats = beats
        self._told = gate_waves(net, beats, [(row[1], row[2]) for row in rows_of(flat, "in")])
        self._wheres = {}
        self._names = {}
        for path, k, where in net[1]:
            self._wheres.setdefault(path, []).append(where)
            if where[0] == "gate":
                self._names.setdefault(where[1], []).append((path, k))

    def wave(self, path):
        """What a name is in each beat, None where a bit of it is gone."""
        if self.lacking(path):
            return (None,) * len(self._beats)
        return worths_of([self._bit_wave(where) for where in self._wheres[path]])

    def _bit_wave(self, where):
        """What a bit that isn't gone is in each beat."""
        return self._told[where[1]] if where[0] == "gate" else (where[1],) * len(self._beats)

    def lacking(self, path):
        """Which bits of a name are gone, rising."""
        return tuple([k for k, where in enumerate(self.gates(path)) if where[0] == "gone"])

    def gates(self, path):
        """Where each bit of a name is traced."""
        # What isn't a text may be no key at all.
        if not isinstance(path, str) or path not in self._wheres:
            raise NoPath(path)
        return tuple(self._wheres[path])

    def names_at(self, gate):
        """(path, k) of each bit that is traced to a gate, rising."""
        return tuple(self._names.get(gate, []))

    def paths(self, by=None):
        """All names, rising; or rising by what a function tells of each, alike ones by names."""
        names = sorted(self._wheres)
        if by is None:
            return tuple(names)
        keyed = sorted([(by(path), path) for path in names])
        return tuple([path for _, path in keyed])

    def __len__(self):
        return len(self._beats)

    def __eq__(self, other):
        if not isinstance(other, Waves):
            return False
        return (self._flat, self._net, self._beats) == (other._flat, other._net, other._beats)
