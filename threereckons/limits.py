"""What is taken for a limit where none is handed in, and what bounds worths and trees."""

LIMIT = 400
ROUNDS = 120
BOUND = 10 ** 6
# Of a tree, and of a path in it.
NODES = 60
PLACES = 30
