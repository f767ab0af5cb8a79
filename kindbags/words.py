"""The words of a text: brackets, names, figures; and the row of names by which programs are written."""

from kindbags.programs import INNER_COUNTS

LETTERS = "abcdefghijklmnopqrstuvwxyz"
FIGURES = "0123456789"


def words_of(text):
    spaced = text.replace("(", " ( ").replace(")", " ) ").replace("\n", " ")
    return [word for word in spaced.split(" ") if word != ""]


def is_name(text):
    return 1 <= len(text) <= 8 and made_of(text, LETTERS) and text not in INNER_COUNTS


def is_figures(text):
    return is_whole_text(text, 9)


def is_whole_text(text, most):
    # Whether it is a whole as it is written, of at most so many figures.
    figures = text[1:] if text.startswith("-") else text
    if not (1 <= len(figures) <= most and made_of(figures, FIGURES)):
        return False
    return not figures.startswith("0") or text == "0"


def made_of(text, signs):
    # Not by isalpha or isdigit, which also let by letters and figures of other tongues.
    return all([sign in signs for sign in text])


def name_of(number):
    # The words of the tongue are no names, so the row leaves them out.
    rank = number
    for left_out in sorted([rank_of(word) for word in INNER_COUNTS]):
        if left_out <= rank:
            rank += 1
    return letters_of(rank)


def rank_of(letters):
    # The number of these letters among all rows of letters: shorter ones first, then by the alphabet.
    rank = 0
    for letter in letters:
        rank = rank * 26 + LETTERS.index(letter) + 1
    return rank - 1


def letters_of(rank):
    letters = ""
    rest = rank + 1
    while rest > 0:
        letters = LETTERS[(rest - 1) % 26] + letters
        rest = (rest - 1) // 26
    return letters
