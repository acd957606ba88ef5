"""Places in expressions, and what is put in for their names."""

from stairsay.errors import NoPlace


def arguments_of(expression):
    return () if expression[0] == "name" else expression[2]


# The expressions from the whole down to the one at the place.
def way_to(expression, place):
    way = [expression]
    for number in place:
        arguments = arguments_of(way[-1])
        if not 0 <= number < len(arguments):
            raise NoPlace("there is no such argument")
        way.append(arguments[number])
    return way


def part_at(expression, place):
    return way_to(expression, place)[-1]


def put_at(expression, place, other):
    above = way_to(expression, place)[:-1]
    made = other
    for whole, number in reversed(list(zip(above, place))):
        form, head, arguments = whole
        made = (form, head, arguments[:number] + (made,) + arguments[number + 1:])
    return made


def filled(expression, put_ins):
    if expression[0] == "name":
        return put_ins.get(expression[1], expression)
    form, head, arguments = expression
    return (form, head, tuple([filled(argument, put_ins) for argument in arguments]))


def names_in(expression):
    found = {}
    waiting = [expression]
    while waiting:
        part = waiting.pop()
        if part[0] == "name":
            found[part[1]] = True
        # Turned round, since the last one in is looked at first.
        waiting.extend(list(reversed(arguments_of(part))))
    return list(found)


def matched(pattern, expression):
    put_ins = {}
    waiting = [(pattern, expression)]
    while waiting:
        wanted, part = waiting.pop()
        if wanted[0] == "name":
            if put_ins.setdefault(wanted[1], part) != part:
                return None
        elif not same_head(wanted, part):
            return None
        else:
            waiting.extend(list(zip(wanted[2], part[2])))
    return put_ins


def same_head(wanted, part):
    return wanted[:2] == part[:2] and len(wanted[2]) == len(part[2])
