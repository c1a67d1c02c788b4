"""The bounds of machines, programs, tables, benches and logs."""

MAX_REGISTERS = 6
MAX_SIZE = 10 ** 30
MAX_PRIME = 97
MAX_FACTOR = 10 ** 60
MAX_DEEDS = 1000000
MAX_POWER = 10 ** 30
MAX_NAMES = 8
MAX_NAME = 8
MAX_NEST = 12
BATCH = 12
MAX_EDITS = 40
