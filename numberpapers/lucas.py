"""Lucas rows."""


def lucas_at(P, Q, k, n):
    """The k-th entries (U, V) of the Lucas rows of P and Q modulo n."""
    u, after = 0, 1 % n
    # u and after are neighbours in the row U; each step doubles their index and may add 1 to it.
    for place in reversed(range(k.bit_length())):
        between = (after * after - Q * u * u) % n
        u, after = u * (2 * after - P * u) % n, between
        if (k >> place) & 1:
            u, after = after, (P * after - Q * u) % n
    return (u, (2 * after - P * u) % n)
