"""Linear orders: whether answers can be those of operations that take effect one after another."""

from shardstack.keeper import carry, keys_of, rows_of


class Operation:
    """An operation of a history: who, what, when it was asked and answered (None for never), and the answer."""

    def __init__(self, client, wish, asked, answered, answer):
        self.client = client
        self.wish = wish
        self.asked = asked
        self.answered = answered
        self.answer = answer


def carry_wish(data, wish):
    """Carry out a wish on a table of keys to values and return its answer."""
    word = wish[0]
    if word in ("read", "near"):
        return ("value", data.get(wish[1]))
    if word == "deal":
        return ("deal", tuple([carry(data, operation) for operation in wish[1]]))
    return carry(data, wish)


def keys_in(wish):
    """Return the keys that a wish is about."""
    if wish[0] == "deal":
        return tuple([operation[1] for operation in wish[1]])
    return keys_of(wish)


def is_reading(wish):
    """Return True if a wish changes nothing, whatever the data."""
    if wish[0] in ("all", "deal"):
        return all([operation[0] == "get" for operation in wish[1]])
    return wish[0] in ("get", "read")


def operations_of(history):
    """Return the operations of a cluster's history; near reads have no place in an order."""
    found = []
    for client, _, wish, asked, answered, answer in history:
        if wish[0] != "near":
            found.append(Operation(client, wish, asked, answered, answer))
    return found


def is_before(operation, time):
    """Return True if an operation was answered before a time."""
    return operation.answered is not None and operation.answered < time


def first_ones(operations, left):
    """Return the numbers of the operations left that none of those left was answered before."""
    answered = [number for number in left if operations[number].answered is not None]
    if answered == []:
        return list(left)
    # Who was answered first of all is the only one that has to be looked at.
    earliest = operations[min(answered, key=lambda number: operations[number].answered)]
    return [number for number in left if not is_before(earliest, operations[number].asked)]


def linear_order(operations):
    """Return the numbers of operations in an order in which their answers are right, None if there is none.

    Operations that were not answered may be left out, or have any answer. Each stands after those that were answered
    before it was asked. Operations without a key in common do not touch each other: each part has an order of its own,
    and orders of parts always go together.
    """
    orders = []
    for part in parts_of(operations):
        order = order_of_part(operations, part)
        if order is None:
            return None
        orders.append(order)
    return joined_orders(operations, orders)


def parts_of(operations):
    """Return lists of numbers: operations of different lists have no key in common, not even by way of others."""
    parts = []
    for number in range(len(operations)):
        keys = {key: True for key in keys_in(operations[number].wish)}
        numbers = [number]
        others = []
        for part in parts:
            if any([key in part[0] for key in keys]):
                keys.update(part[0])
                numbers = part[1] + numbers
            else:
                others.append(part)
        parts = others + [(keys, numbers)]
    return [sorted(numbers) for _, numbers in parts]


class Choice:
    """The numbers left at a place in an order, the data there, and what may come next, as rows (number, data after)."""

    def __init__(self, operations, left, data):
        self.left = left
        self.data = data
        self.nexts = next_rows(operations, left, data)
        self.many = 0

    def is_end(self, operations):
        """Return True if no operation is left that was answered."""
        return not any([operations[number].answered is not None for number in self.left])

    def without(self, number):
        """Return the numbers left behind one of them."""
        return tuple([one for one in self.left if one != number])


def next_rows(operations, left, data):
    """Return (number, data after) of what may come next; one that reads and whose answer is right does at once."""
    found = []
    for number in first_ones(operations, left):
        operation = operations[number]
        after = {key: data[key] for key in data}
        answer = carry_wish(after, operation.wish)
        if operation.answered is None:
            # Leaving it out does the same as one that changes nothing. It comes late, if it has to come at all.
            if after != data:
                found.append((number, after))
        elif answer == operation.answer:
            if is_reading(operation.wish):
                return [(number, after)]
            found.append((number, after))
    return sorted(found, key=lambda row: (operations[row[0]].answered is None, operations[row[0]].answered or 0))


def order_of_part(operations, numbers):
    """Return an order of some of the operations in which their answers are right, None if there is none."""
    # What was tried once in vain is not tried again: the same ones left, and the same data.
    tried = {}
    order = []
    choices = [Choice(operations, tuple(numbers), {})]
    while not choices[-1].is_end(operations):
        choice = choices[-1]
        if choice.many == len(choice.nexts):
            choices.pop()
            if choices == []:
                return None
            order.pop()
        else:
            number, data = choice.nexts[choice.many]
            choice.many = choice.many + 1
            left = choice.without(number)
            mark = (left, rows_of(data))
            if mark not in tried:
                tried[mark] = True
                order.append(number)
                choices.append(Choice(operations, left, data))
    return order


def joined_orders(operations, orders):
    """Return one order of several, in which each operation stands after those that were answered before it."""
    left = sorted([number for order in orders for number in order])
    found = []
    places = [0] * len(orders)
    while left != []:
        firsts = first_ones(operations, left)
        for at in range(len(orders)):
            if places[at] < len(orders[at]) and orders[at][places[at]] in firsts:
                number = orders[at][places[at]]
                places[at] = places[at] + 1
                found.append(number)
                left.remove(number)
                break
    return found


def is_linear(history):
    """Return True if a cluster's history has a linear order."""
    return linear_order(operations_of(history)) is not None
