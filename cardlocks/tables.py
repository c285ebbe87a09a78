"""A table: its prime, its deck and its players, and its canonical text."""


class Table:

    # players: a name and a key for each, in the order of the text
    def __init__(self, prime, deck, players):
        self.prime = prime
        self.deck = deck
        self.players = players


def keys_of(table):
    return [key for name, key in table.players]


def canonical_lines(table):
    prime = table.prime
    cards = " ".join([str(card) for card in table.deck])
    lines = [f"prime {prime};", f"deck {cards};"]
    for name, key in table.players:
        lines.append(f"player {name} key {key};")
    return lines


def canonical_bytes(table):
    text = "".join([line + "\n" for line in canonical_lines(table)])
    return [ord(sign) for sign in text]
