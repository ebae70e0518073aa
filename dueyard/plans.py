"""Plans walked: their faults, what they leave undone, and parts of them."""


def fault_word(row, job, calendar, ahead):
    turn, machine, name = row
    if job is None:
        return "name"
    if not job[1] <= turn <= job[2]:
        return "window"
    if not 0 <= machine < calendar.at(turn):
        return "machine"
    if (turn, machine) in ahead:
        return "taken"
    if ahead.get((turn, name), 0) >= job[4]:
        return "breadth"
    if ahead.get(name, 0) >= job[3]:
        return "work"
    return None


def count_row(row, ahead):
    # A name is a text and a machine a number, so one dict counts all three without mixing them up.
    turn, machine, name = row
    for key in [(turn, machine), (turn, name), name]:
        ahead[key] = ahead.get(key, 0) + 1


def faults(load, calendar, plan):
    jobs = {}
    for job in load:
        jobs[job[0]] = job
    ahead = {}
    told = []
    for index, row in enumerate(plan):
        word = fault_word(row, jobs.get(row[2]), calendar, ahead)
        if word is not None:
            told.append((index, word))
        count_row(row, ahead)
    return told


def turns_worked(plan, name):
    return [row[0] for row in plan if row[2] == name]


def undone(load, plan):
    return [max(0, job[3] - len(turns_worked(plan, job[0]))) for job in load]


def last_turn(plan, name):
    return max(turns_worked(plan, name), default=None)


def until(plan, turn):
    return [row for row in plan if row[0] < turn]


def since(plan, turn):
    return [row for row in plan if row[0] >= turn]


def without(plan, name):
    return [row for row in plan if row[2] != name]
