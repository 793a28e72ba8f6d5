"""The words and indents of a text's rows."""

# Letters and figures are written out: isalpha and isdigit let by signs from beyond ASCII, too.
LETTERS = "abcdefghijklmnopqrstuvwxyzABCDEFGHIJKLMNOPQRSTUVWXYZ"
FIGURES = "0123456789"
TOLD_WORDS = (
    "and", "as", "break", "class", "continue", "def", "elif", "else", "except", "False", "finally", "for", "from",
    "global", "if", "in", "None", "nonlocal", "not", "or", "pass", "raise", "return", "True", "try", "while", "yield",
)
SHORT_MARKS = ("+", "-", "*", "&", "|", "<", ">", "=", "(", ")", ",", ".", ":")
LONG_MARKS = ("//", "<=", ">=", "==", "!=", "+=", "-=", "*=")
MOST_NAME_SIGNS = 12
MOST_FIGURES = 12
MOST_TEXT_SIGNS = 40
BLANKS_OF_BLOCK = 4
MOST_BLOCKS = 12


def is_word_sign(sign):
    return sign in LETTERS or sign in FIGURES or sign == "_"


def is_name(thing):
    if not isinstance(thing, str) or thing in TOLD_WORDS:
        return False
    if thing == "" or len(thing) > MOST_NAME_SIGNS or thing[0] not in LETTERS:
        return False
    return all([is_word_sign(sign) for sign in thing])


def is_number(piece):
    if len(piece) > MOST_FIGURES or not all([sign in FIGURES for sign in piece]):
        return False
    return piece == "0" or piece[0] != "0"


def is_text_literal(piece):
    if len(piece) < 2 or len(piece) > MOST_TEXT_SIGNS + 2 or piece[0] != '"' or piece[-1] != '"':
        return False
    # A tab is no sign of a text, so none of a literal either.
    return all([" " <= sign and sign <= "~" for sign in piece])


def word_of(piece):
    if piece in TOLD_WORDS:
        return ("told", piece)
    if is_name(piece):
        return ("name", piece)
    if is_number(piece):
        return ("number", int(piece))
    if is_text_literal(piece):
        return ("text", piece[1:-1])
    if piece in SHORT_MARKS or piece in LONG_MARKS:
        return ("mark", piece)
    return None


def behind_literal(row, place):
    closing = row.find('"', place + 1)
    return len(row) if closing < 0 else closing + 1


def behind_word_signs(row, place):
    behind = place
    while behind < len(row) and is_word_sign(row[behind]):
        behind = behind + 1
    return behind


def behind_piece(row, place):
    if row[place] == '"':
        return behind_literal(row, place)
    if is_word_sign(row[place]):
        return behind_word_signs(row, place)
    return place + 2 if row[place:place + 2] in LONG_MARKS else place + 1


def words_of(row):
    words = []
    place = 0
    # Literals are passed whole, so a "#" that is met here stands in none.
    while place < len(row) and row[place] != "#":
        if row[place] == " ":
            place = place + 1
        else:
            behind = behind_piece(row, place)
            word = word_of(row[place:behind])
            if word is None:
                return None
            words.append(word)
            place = behind
    return words


def indent_of(row):
    blanks = len(row) - len(row.lstrip(" "))
    blocks = blanks // BLANKS_OF_BLOCK
    if blocks * BLANKS_OF_BLOCK != blanks or blocks > MOST_BLOCKS:
        return None
    return blocks


def rows_of(text):
    rows = []
    for number, row in enumerate(text.split("\n")):
        words = words_of(row)
        if words != []:
            rows.append((number, indent_of(row), words))
    return rows
