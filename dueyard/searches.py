"""The least number for which a load is kept, and the paper that shows that no lesser one will do."""


def least_kept(settle, low, high):
    # What is kept for one number is kept for each greater one, and for high it is kept.
    while low < high:
        middle = (low + high) // 2
        if settle(middle).kept():
            high = middle
        else:
            low = middle + 1
    return low


def paper_of(verdict):
    return (verdict.spans, verdict.names)


def last_turn_wanted(calendar, firsts, work):
    # Behind the calendar's end there is a machine at every turn, so from there on, and from the last of these
    # first turns on, as many turns as there is work will do.
    return max(firsts + [calendar.end()]) + work - 1
