"""What a caller may leave out, and the names of the turns."""

TOP = "top"
TURNS = ("fold", "share", "drop")
TABLE = (20, 20)
DELAYS = (1, 2, 3)
MOST = 100
