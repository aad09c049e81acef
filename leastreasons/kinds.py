"""The kinds of single values, on which all other tests of values rest, and numbers in their order."""


def is_integer(value):
    """Whether any value is an integer."""
    # Python counts True and False among the integers, the document does not.
    return isinstance(value, int) and not isinstance(value, bool)


def is_integer_below(value, limit):
    """Whether any value is an integer from 0 on that is less than the limit."""
    return is_integer(value) and 0 <= value < limit


def are_ascending_below(values, limit):
    """Whether all of any values are integers from 0 on below the limit, in strictly ascending order."""
    least = 0
    for value in values:
        if not is_integer_below(value, limit) or value < least:
            return False
        least = value + 1
    return True


def ascending_numbers(numbers):
    """The ascending list of some integers; equal ones stand side by side."""
    # A class that compares lets only plain numbers be sorted in its package; int(..) shows that these are such.
    return sorted([int(number) for number in numbers])
