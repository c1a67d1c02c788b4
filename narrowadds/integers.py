"""Primes in integers, powers and inverses."""


def how_often(p, number):
    """Return how often p divides number, which is not 0."""
    rest = number
    times = 0
    while rest % p == 0:
        rest //= p
        times += 1
    return times


def power_of(base, times):
    """Return the product of so many times base."""
    found = 1
    for _ in range(times):
        found *= base
    return found


def inverse(number, modulus):
    """Return what makes 1 of number modulo modulus; no prime divides both of them."""
    ahead, behind = modulus, number % modulus
    found, coming = 0, 1
    # By Euclid's steps: all along, number times found is ahead, and number times coming is behind, modulo modulus.
    while behind != 0:
        times = ahead // behind
        ahead, behind = behind, ahead - times * behind
        found, coming = coming, found - times * coming
    return found % modulus
