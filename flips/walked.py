"""How much switches matter, by going through the places of a table."""


def matters_at(table, subset):
    return [place for place, answer in enumerate(table) if table[place ^ subset] != answer]
