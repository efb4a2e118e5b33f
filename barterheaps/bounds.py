"""The bounds of what the package takes and tells."""

MAX_SINGLE = 4
MAX_WEIGHT = 6
MAX_ROWS = 6
MAX_KINDS = 6
MAX_FREE = 3
MAX_COUNT = 40
MAX_LOT = 3000
MAX_BOOK = 30
MAX_CAP = 3
MAX_FAN = 2
MAX_FAR = 10 ** 30
