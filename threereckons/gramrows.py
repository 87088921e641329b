"""The rows of a grammar's text, as they are written."""


def term_text(term):
    """The word for a target or an operand."""
    if term[0] == "at":
        return f"{term[1]}.{term[2]}"
    if term[0] == "own":
        return "own"
    return str(term[1])


def sort_text(row):
    sort, downs, ups = row
    return " ".join(["sort", sort, *downs, "/", *ups])


def making_text(row):
    making, sort, parts = row
    return " ".join(["make", making, sort, *parts])


def rule_text(row):
    making, target, op, operands = row
    words = [term_text(operand) for operand in operands]
    return " ".join(["rule", making, term_text(target), op, *words])


def text_rows(grammar):
    """All rows of a grammar's text, in order."""
    rows = [f"cap {grammar.cap()}"] if grammar.cap() > 0 else []
    rows.extend([sort_text(row) for row in grammar.sorts()])
    rows.extend([making_text(row) for row in grammar.makings()])
    rows.extend([rule_text(row) for row in grammar.rules()])
    return rows
