"""Lists of primes."""


def sieve(most):
    """The primes up to most, ascending."""
    prime = [True] * (most + 1)
    found = []
    for n in range(2, most + 1):
        if not prime[n]:
            continue
        found.append(n)
        for k in range(n * n, most + 1, n):
            prime[k] = False
    return tuple(found)


def is_tried(n):
    """Whether no d from 2 on with d * d at most n divides n, for n from 2 on."""
    if n % 2 == 0:
        return n == 2
    d = 3
    while d * d <= n:
        if n % d == 0:
            return False
        d += 2
    return True


def next_prime(n):
    """The least prime greater than n."""
    found = max(2, n + 1)
    while not is_tried(found):
        found += 1
    return found
