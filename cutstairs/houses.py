"""Houses: tuples (TOP, JOBS, TOOLS), and which jobs are best done at a price, and at every price."""

from cutstairs.cuts import worth_of
from cutstairs.fractions import minus
from cutstairs.least import least_cut
from cutstairs.stairs import stair_of
from cutstairs.webs import has_house_form, house_web


def is_house(thing):
    """Whether a thing of any kind is a house."""
    return has_house_form(thing)


def jobs_in(house, cut):
    """The jobs of a house that a cut of its web has."""
    return tuple(job[0] for job in house[1] if job[0] in cut)


def best_jobs(house, price):
    """The most that can be earned at a price, and the least jobs that earn it: (EARNS, DONE)."""
    web = house_web(house)
    cut = least_cut(web, price)
    # A cut is worth what its jobs' tools cost and what all other jobs would earn.
    earns = minus(worth_of(web, (), price), worth_of(web, cut, price))
    return (earns, jobs_in(house, cut))


def jobs_stair(house):
    """For each stretch of prices the least jobs that earn most, and the breaks: (DONES, BREAKS)."""
    bits, breaks = stair_of(house_web(house))
    return ([jobs_in(house, bit[0]) for bit in bits], breaks)
