"""The tokens of a text, which is a list of bytes."""

WORD = "word"
NUMBER = "number"
SEMICOLON = "semicolon"
INVALID = "invalid"
END = "end"

LETTERS = "abcdefghijklmnopqrstuvwxyz"
LETTER_A = 97
LETTER_Z = 122
DIGIT_0 = 48
DIGIT_9 = 57
SEMICOLON_BYTE = 59
WHITE_SPACE = (32, 10)

LONGEST_WORD = 8
LONGEST_NUMBER = 3


class Token:

    # value: the text of a word, the number itself of a number, otherwise None
    def __init__(self, kind, value, offset, end):
        self.kind = kind
        self.value = value
        self.offset = offset
        self.end = end


def is_letter(byte):
    return byte >= LETTER_A and byte <= LETTER_Z


def is_digit(byte):
    return byte >= DIGIT_0 and byte <= DIGIT_9


def run_end(text, start, belongs):
    end = start
    while end < len(text) and belongs(text[end]):
        end += 1
    return end


def word_token(text, start):
    end = run_end(text, start, is_letter)
    if end - start > LONGEST_WORD:
        return Token(INVALID, None, start, end)
    word = "".join([LETTERS[byte - LETTER_A] for byte in text[start:end]])
    return Token(WORD, word, start, end)


def number_token(text, start):
    end = run_end(text, start, is_digit)
    length = end - start
    if length > LONGEST_NUMBER or (length > 1 and text[start] == DIGIT_0):
        return Token(INVALID, None, start, end)
    number = 0
    for byte in text[start:end]:
        number = number * 10 + byte - DIGIT_0
    return Token(NUMBER, number, start, end)


def token_at(text, start):
    byte = text[start]
    if is_letter(byte):
        return word_token(text, start)
    if is_digit(byte):
        return number_token(text, start)
    if byte == SEMICOLON_BYTE:
        return Token(SEMICOLON, None, start, start + 1)
    return Token(INVALID, None, start, start + 1)


def tokens_of(text):
    tokens = []
    place = 0
    while place < len(text):
        if text[place] in WHITE_SPACE:
            place += 1
        else:
            token = token_at(text, place)
            tokens.append(token)
            place = token.end
    # a text that ends too early is reported at its length, like a token that stands there
    tokens.append(Token(END, None, place, place))
    return tokens
