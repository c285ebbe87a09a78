"""Reads a table from its text; the first error from the left is raised."""

from cardlocks.locks import is_card, is_key, is_table_prime
from cardlocks.refusals import InvalidText
from cardlocks.rows import MOST_CARDS
from cardlocks.scanning import END, NUMBER, SEMICOLON, WORD, tokens_of
from cardlocks.tables import Table

NOT_ALLOWED = 1
REPEATED_OR_TOO_MANY = 3
WRONG_NUMBER = 4

KEYWORDS = ("prime", "deck", "player", "key")

FEWEST_CARDS = 2
MOST_PLAYERS = 4


class TokenReader:

    def __init__(self, tokens):
        self.tokens = tokens
        self.place = 0

    def is_at(self, kind):
        return self.tokens[self.place].kind == kind

    def take(self, kind):
        token = self.tokens[self.place]
        if token.kind != kind:
            raise InvalidText(NOT_ALLOWED, token.offset)
        self.place += 1
        return token

    def take_keyword(self, word):
        token = self.take(WORD)
        if token.value != word:
            raise InvalidText(NOT_ALLOWED, token.offset)


def read_prime(reader):
    reader.take_keyword("prime")
    token = reader.take(NUMBER)
    if not is_table_prime(token.value):
        raise InvalidText(WRONG_NUMBER, token.offset)
    reader.take(SEMICOLON)
    return token.value


def read_card(reader, prime, deck):
    token = reader.take(NUMBER)
    if not is_card(token.value, prime):
        raise InvalidText(WRONG_NUMBER, token.offset)
    if token.value in deck or len(deck) == MOST_CARDS:
        raise InvalidText(REPEATED_OR_TOO_MANY, token.offset)
    return token.value


def read_deck(reader, prime):
    reader.take_keyword("deck")
    deck = []
    while len(deck) < FEWEST_CARDS or reader.is_at(NUMBER):
        deck.append(read_card(reader, prime, deck))
    reader.take(SEMICOLON)
    return deck


def read_name(reader, players):
    token = reader.take(WORD)
    if token.value in KEYWORDS:
        raise InvalidText(NOT_ALLOWED, token.offset)
    used = [name for name, key in players]
    if token.value in used or len(players) == MOST_PLAYERS:
        raise InvalidText(REPEATED_OR_TOO_MANY, token.offset)
    return token.value


def read_key(reader, prime):
    reader.take_keyword("key")
    token = reader.take(NUMBER)
    if not is_key(token.value, prime):
        raise InvalidText(WRONG_NUMBER, token.offset)
    return token.value


def read_player(reader, prime, players):
    reader.take_keyword("player")
    name = read_name(reader, players)
    key = read_key(reader, prime)
    reader.take(SEMICOLON)
    return (name, key)


def read_table(text):
    reader = TokenReader(tokens_of(text))
    prime = read_prime(reader)
    deck = read_deck(reader, prime)
    players = []
    while not reader.is_at(END):
        players.append(read_player(reader, prime, players))
    return Table(prime, deck, players)
