"""Why a feature fails."""


class Failure(Exception):
    """The word and the detail of the status of a feature."""

    def __init__(self, word, detail):
        Exception.__init__(self, "the feature fails")
        self.word = word
        self.detail = detail
