"""What is taken for a limit where none is handed in, and what bounds worths."""

LIMIT = 400
ROUNDS = 120
BOUND = 10 ** 6
