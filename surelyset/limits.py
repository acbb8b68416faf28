"""The limits of programs and of the numbers that are told of them."""

MAX_FUNCTIONS = 12
MAX_NAMES = 8
MAX_STATEMENTS = 150
MAX_DEPTH = 8
MAX_SIZE = 10 ** 30
# 10 ** 300, in factors whose exponents are small
MOST_STEPS = 10 ** 60 * 10 ** 60 * 10 ** 60 * 10 ** 60 * 10 ** 60
