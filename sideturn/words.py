"""The single words of a text: names, kinds and figures."""

TAKEN_WORDS = (
    "made", "asked", "def", "tab", "cross", "to", "number",
    "zero", "let", "make", "ask", "case", "new",
)
LONGEST_NAME = 8
MOST_FIGURES = 6


# Signs are held against the first and the last one allowed, as Python's own
# islower and isdigit also take letters and figures of other scripts.
def lies_between(text, first, last):
    return all([first <= sign <= last for sign in text])


def is_name(text):
    if not 1 <= len(text) <= LONGEST_NAME:
        return False
    return lies_between(text, "a", "z") and text not in TAKEN_WORDS


def is_kind(text):
    return text == "number" or is_name(text)


def is_number(text):
    if not 1 <= len(text) <= MOST_FIGURES:
        return False
    return lies_between(text, "0", "9") and (text == "0" or text[0] != "0")
