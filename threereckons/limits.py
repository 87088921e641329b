"""What is taken for a limit where none is handed in."""

LIMIT = 400
ROUNDS = 120
