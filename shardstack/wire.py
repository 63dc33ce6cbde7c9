"""Wire: values as bytes: whole numbers, texts, truths, None, and tuples of them."""

from shardstack.errors import WireError

MOST_DEEP = 30
SUM_LIMIT = 65521

NOTHING = 1
TRUTH = 2
FALSEHOOD = 3
NUMBER = 4
BELOW = 5
TEXT = 6
ROW = 7

# The order is that of the bytes: a character's place in this row is its number. The percent sign has none.
SIGNS = "\n !\"#$&'()*+,-./0123456789:;<=>?@ABCDEFGHIJKLMNOPQRSTUVWXYZ[\\]^_`abcdefghijklmnopqrstuvwxyz{|}~"


def natural(number):
    """Return a number from 0 on as bytes of seven bits, the lowest first, all but the last raised by 128."""
    found = []
    while number > 127:
        found.append(number % 128 + 128)
        number = number // 128
    found.append(number)
    return tuple(found)


def sign_number(sign):
    """Return the number of a character; raise WireError for one that cannot be sent."""
    place = SIGNS.find(sign) if len(sign) == 1 else -1
    if place < 0:
        raise WireError("a character cannot be sent")
    return place


def pack(value, depth=0):
    """Return the bytes of a value; raise WireError for one that cannot be sent."""
    found = []
    add_value(found, value, depth)
    return tuple(found)


def add_value(found, value, depth):
    """Add the bytes of a value to a list; depth tells how many tuples the value stands in."""
    if depth > MOST_DEEP:
        raise WireError("tuples are nested too deep")
    if value is None:
        found.append(NOTHING)
    elif value is True:
        found.append(TRUTH)
    elif value is False:
        found.append(FALSEHOOD)
    elif isinstance(value, int):
        add_number(found, value)
    elif isinstance(value, str):
        found.append(TEXT)
        found.extend(natural(len(value)))
        found.extend([sign_number(sign) for sign in value])
    elif isinstance(value, tuple):
        found.append(ROW)
        found.extend(natural(len(value)))
        for item in value:
            add_value(found, item, depth + 1)
    else:
        raise WireError("a value cannot be sent")


def add_number(found, number):
    """Add the bytes of a whole number to a list."""
    if number >= 0:
        found.append(NUMBER)
        found.extend(natural(number))
    else:
        found.append(BELOW)
        found.extend(natural(0 - number - 1))


class Unpacker:
    """Bytes, and the place up to which they were read."""

    def __init__(self, data):
        self.data = data
        self.place = 0

    def read_byte(self):
        """Read one byte."""
        if self.place >= len(self.data):
            raise WireError("bytes are cut")
        found = self.data[self.place]
        self.place = self.place + 1
        return found

    def read_number(self):
        """Read a number from 0 on, which has no needless last byte."""
        number = 0
        weight = 1
        byte = self.read_byte()
        while byte > 127:
            number = number + (byte - 128) * weight
            weight = weight * 128
            byte = self.read_byte()
        if byte == 0 and weight > 1:
            raise WireError("a number has a needless byte")
        return number + byte * weight

    def read_length(self):
        """Read how many items follow, each of which takes at least one byte."""
        many = self.read_number()
        if many > len(self.data) - self.place:
            raise WireError("bytes are cut")
        return many

    def read_text(self):
        """Read the characters of a text."""
        end = self.read_length() + self.place
        places = self.data[self.place:end]
        if any([place >= len(SIGNS) for place in places]):
            raise WireError("there is no such character")
        self.place = end
        return "".join([SIGNS[place] for place in places])

    def read_value(self, depth):
        """Read a value that stands in so many tuples."""
        if depth > MOST_DEEP:
            raise WireError("tuples are nested too deep")
        mark = self.read_byte()
        if mark == NOTHING:
            return None
        if mark == TRUTH or mark == FALSEHOOD:
            return mark == TRUTH
        if mark == NUMBER:
            return self.read_number()
        if mark == BELOW:
            return 0 - self.read_number() - 1
        if mark == TEXT:
            return self.read_text()
        if mark == ROW:
            return tuple([self.read_value(depth + 1) for _ in range(self.read_length())])
        raise WireError("there is no such class of value")


def unpack(data):
    """Return the value of bytes; raise WireError for bytes that are none, or have more."""
    unpacker = Unpacker(data)
    value = unpacker.read_value(0)
    if unpacker.place != len(unpacker.data):
        raise WireError("bytes go on behind a value")
    return value


def sum_of_bytes(data):
    """Return the checksum of bytes as four bytes: two sums by 65521."""
    first = 1
    second = 0
    for byte in data:
        first = first + byte
        second = second + first
    return four(second % SUM_LIMIT * 65536 + first % SUM_LIMIT)


def four(number):
    """Return a number as four bytes, the highest first."""
    return (number // 16777216 % 256, number // 65536 % 256, number // 256 % 256, number % 256)


def number_of_four(data):
    """Return the number that four bytes tell, the highest first."""
    return data[0] * 16777216 + data[1] * 65536 + data[2] * 256 + data[3]


def frame(value):
    """Return the bytes of a record: the length of a value's bytes, the bytes, and their checksum."""
    data = pack(value)
    return four(len(data)) + data + sum_of_bytes(data)


def read_frames(data):
    """Return (values, how many bytes they take) of the whole records at the beginning of bytes."""
    values = []
    place = 0
    end = record_end(data, place)
    while end is not None:
        try:
            values.append(unpack(data[place + 4:end - 4]))
        except WireError:
            # A record whose bytes are no value counts as a damaged one.
            break
        place = end
        end = record_end(data, place)
    return (values, place)


def record_end(data, place):
    """Return where the record at a place ends, None if it is cut or its checksum is another."""
    if place + 8 > len(data):
        return None
    end = place + 8 + number_of_four(data[place:place + 4])
    if end > len(data) or sum_of_bytes(data[place + 4:end - 4]) != data[end - 4:end]:
        return None
    return end
