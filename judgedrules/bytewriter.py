"""Values written as their bytes."""

from judgedrules.bytereader import LIST, NUMBER, RECORD, TEXT


class Writer:
    """Puts what values are made of behind one another."""

    def __init__(self):
        self.codes = []

    def put_varying(self, number):
        """A varying number."""
        while number > 127:
            self.codes.append(number & 127 | 128)
            number = number >> 7
        self.codes.append(number)

    def put_signs(self, text):
        """How many bytes a text of plain signs has, and they."""
        self.put_varying(len(text))
        self.codes.extend([ord(sign) for sign in text])

    def put_number(self, number):
        """A number from 0 on."""
        amount = []
        while number > 0:
            amount.append(number & 255)
            number = number >> 8
        self.codes.append(NUMBER)
        self.put_varying(2 * len(amount))
        self.codes.extend(amount)

    def put_text(self, text):
        """A text of plain signs."""
        self.codes.append(TEXT)
        self.put_signs(text)

    def put_list(self, size):
        """A list's beginning; its members are to be put behind it."""
        self.codes.append(LIST)
        self.put_varying(size)

    def put_record(self, size):
        """A record's beginning; its names, each with its value, are to be put behind it, as they rise."""
        self.codes.append(RECORD)
        self.put_varying(size)
