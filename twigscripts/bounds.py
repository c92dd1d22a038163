"""The limits that the document sets."""

MAX_DEEDS = 12
MAX_DEEP = 40
MAX_DEPTH = 5
MAX_EDITS = 60
MAX_FEW = 3
MAX_NAMES = 120
MAX_NEW = 3
MAX_OLD = 4
MAX_SHORT = 2
MAX_WISHES = 12
