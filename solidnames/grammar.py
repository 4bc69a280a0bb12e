"""Reads the text of a formula, part by part, without recursion.

What comes out is a list of steps for a stack, in the order in which the parts of the formula
are evaluated: ("integer", number), ("parameter", name) or ("operation", sign), where the
operands of an operation are the last values on the stack. The signs are those of LEVELS and
the words min and max.
"""

from solidnames.errors import ParseError
from solidnames.values import DIGITS, LETTERS, MOST_LETTERS, RESERVED

MOST_DIGITS = 31

# How tightly the operations bind; an open bracket that waits among them binds nothing.
LEVELS = {"+": 1, "-": 1, "*": 2, "//": 2, "minus": 3}
LOOSEST = 1

# What may stand next.
OPERAND = "operand"
OPERATOR = "operator"
BRACKET = "bracket"


class Reader:
    """Stops with ParseError at the first character behind which no formula can follow."""

    def __init__(self, text):
        self.text = text
        self.place = 0
        self.code = []
        # Operations without their last operand, and open brackets: "(", or the word before it,
        # with a comma behind the word when the comma has been read.
        self.waiting = []

    def read(self):
        wanted = OPERAND
        self.skip_spaces()
        while self.place < len(self.text):
            if wanted == OPERAND:
                wanted = self.read_operand()
            elif wanted == BRACKET:
                wanted = self.read_bracket()
            else:
                wanted = self.read_operator()
            self.skip_spaces()
        self.finish(LOOSEST)
        if wanted != OPERATOR or self.waiting:
            raise ParseError(len(self.text))
        return self.code

    def skip_spaces(self):
        while self.text[self.place:self.place + 1] == " ":
            self.place += 1

    def run_of(self, signs, most):
        """The next characters that are among the signs, so many at most."""
        start = self.place
        while self.place < len(self.text) and self.place - start < most and self.text[self.place] in signs:
            self.place += 1
        return self.text[start:self.place]

    def read_operand(self):
        first = self.text[self.place]
        if first in "-(":
            self.waiting.append("minus" if first == "-" else "(")
            self.place += 1
            return OPERAND
        if first in DIGITS:
            # A zero is an integer by itself, so that a digit behind it is found wrong.
            digits = self.run_of(DIGITS, 1 if first == "0" else MOST_DIGITS)
            self.code.append(("integer", int(digits)))
            return OPERATOR
        if first in LETTERS:
            return self.read_word()
        raise ParseError(self.place)

    def read_word(self):
        word = self.run_of(LETTERS, MOST_LETTERS)
        if word in ("min", "max"):
            self.waiting.append(word)
            return BRACKET
        # Another letter could have made a name of it, so only what follows it is wrong.
        if word in RESERVED:
            raise ParseError(self.place)
        self.code.append(("parameter", word))
        return OPERATOR

    def read_bracket(self):
        if self.text[self.place] != "(":
            raise ParseError(self.place)
        self.place += 1
        return OPERAND

    def read_operator(self):
        sign = self.text[self.place]
        if sign == "/":
            if self.text[self.place + 1:self.place + 2] != "/":
                raise ParseError(self.place + 1)
            sign = "//"
        if sign in LEVELS:
            self.finish(LEVELS[sign])
            self.waiting.append(sign)
            self.place += len(sign)
            return OPERAND
        self.finish(LOOSEST)
        if sign == ",":
            return self.read_comma()
        if sign == ")":
            return self.read_end()
        raise ParseError(self.place)

    def read_comma(self):
        if not self.waiting or self.waiting[-1] not in ("min", "max"):
            raise ParseError(self.place)
        self.waiting.append(self.waiting.pop() + ",")
        self.place += 1
        return OPERAND

    def read_end(self):
        if not self.waiting or self.waiting[-1] in ("min", "max"):
            raise ParseError(self.place)
        opener = self.waiting.pop()
        if opener != "(":
            self.code.append(("operation", opener[:3]))
        self.place += 1
        return OPERATOR

    def finish(self, level):
        """The operations that bind at least so tightly have their last operand now."""
        while self.waiting and LEVELS.get(self.waiting[-1], 0) >= level:
            self.code.append(("operation", self.waiting.pop()))
