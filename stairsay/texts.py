"""Texts: expressions written out and read back."""

from stairsay.errors import BadText
from stairsay.names import is_name
from stairsay.programs import is_maker

MARKS = ("(", ")", ",", " ")
# For each piece of a text, and for its start, what may stand straight behind it.
BEHIND = {
    "start": ("word",),
    "word": ("(", ")", ",", "end"),
    "(": ("word", ")"),
    ")": (")", ",", "end"),
    ",": (" ",),
    " ": ("word",),
}


def shown_as(expression):
    if expression[0] == "name":
        return expression[1]
    form, head, arguments = expression
    inside = ", ".join([shown_as(argument) for argument in arguments])
    return f"{head}({inside})"


def read_as(stock, text):
    pieces = pieces_of(text)
    check_neighbours(pieces)
    check_brackets(pieces)
    return written_by(stock, pieces)


# Marks, and what stands between them.
def pieces_of(text):
    pieces = []
    word = ""
    for sign in text:
        if sign in MARKS:
            pieces.extend([word, sign])
            word = ""
        else:
            word += sign
    return [piece for piece in pieces + [word] if piece != ""]


def check_neighbours(pieces):
    ahead = "start"
    for piece in pieces:
        form = form_of(piece)
        if form not in BEHIND[ahead]:
            raise BadText(f"{piece!r} can't stand where it does")
        ahead = form
    if "end" not in BEHIND[ahead]:
        raise BadText("the text breaks off")


def form_of(piece):
    if piece in MARKS:
        return piece
    if not is_name(piece):
        raise BadText(f"no word: {piece!r}")
    return "word"


def check_brackets(pieces):
    unclosed = 0
    for piece in pieces:
        if piece in (")", ",") and unclosed == 0:
            raise BadText(f"{piece!r} stands within no brackets")
        if piece == "(":
            unclosed += 1
        if piece == ")":
            unclosed -= 1
    if unclosed > 0:
        raise BadText("a bracket isn't closed")


# Lists and not calls within calls keep what is begun, so that how deep the brackets stand doesn't matter.
def written_by(stock, pieces):
    # Words whose brackets aren't closed yet, the innermost last.
    words = []
    # What is read so far outside of all brackets, then within those of each such word.
    rows = [[]]
    for piece, next_piece in zip(pieces, pieces[1:] + [""]):
        if piece == "(":
            rows.append([])
        elif piece == ")":
            arguments = tuple(rows.pop())
            rows[-1].append(with_arguments(stock, words.pop(), arguments))
        elif next_piece == "(":
            words.append(piece)
        elif piece not in MARKS:
            rows[-1].append(("name", piece))
    return rows[0][0]


def with_arguments(stock, word, arguments):
    return ("make" if is_maker(stock, word) else "call", word, arguments)
