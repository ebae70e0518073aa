"""Shares laid: which machine works for which job at which turn."""


def laid_in_cell(load, first, turns, own_shares):
    plan = []
    for job, share in zip(load, own_shares):
        start = len(plan)
        for position in range(start, start + share):
            plan.append((first + position % turns, position // turns, job[0]))
    return plan


def laid(load, cells, shares):
    plan = []
    for place, cell in enumerate(cells):
        own_shares = [of_job[place] for of_job in shares]
        plan.extend(laid_in_cell(load, cell[0], cell[1] - cell[0] + 1, own_shares))
    return sorted(plan)
