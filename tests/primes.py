"""Primes, soft numbers, and papers of primes judged another way, by the words of [4] and [34] to [40]."""

import math

SMALL = [p for p in range(2, 320) if all(p % d for d in range(2, p))]
PRIMES = [p for p in range(2, 10 ** 5 + 1) if all(p % d for d in SMALL if d * d <= p)]
TWELVE = PRIMES[:12]


def strong(n, a):
    """Whether a is the number of a strong witness of an odd n."""
    if not 2 <= a <= n - 2:
        return False
    m, s = n - 1, 0
    while m % 2 == 0:
        m, s = m // 2, s + 1
    x = pow(a, m, n)
    return x not in (1, n - 1) and all(pow(x, 2 ** k, n) != n - 1 for k in range(1, s))


def is_prime(n):
    """Whether n is prime; numbers to 10 ** 300, none of which was made to deceive the 40 bases."""
    if n < 2:
        return False
    for p in PRIMES[:40]:
        if n % p == 0:
            return n == p
    return not any(strong(n, a) for a in PRIMES[:40])


def leftover(n):
    found = []
    for p in PRIMES:
        e = 0
        while n % p == 0:
            n, e = n // p, e + 1
        if e:
            found.append((p, e))
    return tuple(found), n


def soft(n):
    left = leftover(n)[1]
    if left == 1:
        return True
    for k in range(1, 140):
        r = root(left, k)
        if r > 1 and r ** k == left and (r < 10 ** 10 or is_prime(r) and soft(r - 1)):
            return True
    return False


def root(n, k):
    low, high = 0, 1 << (n.bit_length() // k + 1)
    while high - low > 1:
        middle = (low + high) // 2
        if middle ** k <= n:
            low = middle
        else:
            high = middle
    return low


def passes(n):
    return not any(strong(n, a) for a in TWELVE if a <= n - 2)


def told(n):
    """What told_prime does: "prime", "witness" or "hard"."""
    if n >= 10 ** 10 and n % 2 and not any(n % p == 0 for p in PRIMES) and passes(n) and not soft(n - 1):
        return "hard"
    return "prime" if is_prime(n) else "witness"


def integer(value):
    return type(value) is int


def right_witness(n, value):
    if type(value) is not tuple or not value or type(value[0]) is not str:
        return False
    if value == ("small",):
        return n < 2
    if len(value) != 2 or not integer(value[1]):
        return False
    word, a = value
    if word == "divisor":
        return 2 <= a <= n - 1 and n % a == 0
    if word == "power":
        return 2 <= a <= n - 1 and pow(a, n - 1, n) != 1
    if word == "root":
        return 2 <= a <= n - 2 and a * a % n == 1
    return word == "strong" and n % 2 == 1 and strong(n, a)


def breach(n, value, path=()):
    """What prime_breach returns."""
    rows = paper_rows(n, value)
    return path if rows is None else first_breach(rows, path)


def tree_breach(p, value, path=()):
    rows = tree_rows(p, value)
    return path if rows is None else first_breach(rows, path)


def first_breach(rows, path):
    for i, (judge, q, paper) in enumerate(rows):
        found = judge(q, paper, path + (i,))
        if found is not None:
            return found
    return None


def is_triple(value, size):
    return type(value) is tuple and len(value) == size


def forms(rows, size):
    """Whether rows have q from 2 ascending, e from 1 to 1000 and the size."""
    if type(rows) is not tuple or not all(is_triple(r, size) for r in rows):
        return False
    if not all(integer(r[0]) and integer(r[1]) and r[0] >= 2 and 1 <= r[1] <= 1000 for r in rows):
        return False
    return all(rows[k][0] < rows[k + 1][0] for k in range(len(rows) - 1))


def tree_rows(p, value):
    if not is_triple(value, 3) or not integer(value[0]) or value[0] != p or not integer(value[1]):
        return None
    _, g, rows = value
    if not 1 <= g <= p - 1 or not forms(rows, 3):
        return None
    if sum(e * (q.bit_length() - 1) for q, e, _ in rows) > p.bit_length():
        return None
    if math.prod(q ** e for q, e, _ in rows) != p - 1:
        return None
    if pow(g, p - 1, p) != 1 or any(pow(g, (p - 1) // q, p) == 1 for q, _, _ in rows):
        return None
    return [(tree_breach, q, tree) for q, _, tree in rows]


def full(q, e, n):
    """Whether q ** e is the full power of q in n."""
    return e <= n.bit_length() and n % q ** e == 0 and n % q ** (e + 1) != 0


def paper_rows(n, value):
    if type(value) is not tuple or not value or type(value[0]) is not str:
        return None
    word = value[0]
    if word == "tree":
        return tree_rows(n, value[1]) if len(value) == 2 else None
    if len(value) < 2 or not integer(value[1]) or value[1] != n:
        return None
    if word == "tried":
        right = len(value) == 2 and 2 <= n <= 10 ** 6 and all(n % d for d in range(2, math.isqrt(n) + 1))
        return [] if right else None
    if word == "part":
        return part_rows(n, value)
    return lucas_paper_rows(n, value) if word == "lucas" else None


def part_rows(n, value):
    if len(value) != 3 or n < 3 or n % 2 == 0 or not forms(value[2], 4):
        return None
    F = 1
    for q, e, a, _ in value[2]:
        if not integer(a) or not 2 <= a <= n - 1 or not full(q, e, n - 1):
            return None
        if pow(a, n - 1, n) != 1 or math.gcd(pow(a, (n - 1) // q, n) - 1, n) != 1:
            return None
        F *= q ** e
    return [(breach, q, paper) for q, _, _, paper in value[2]] if F * F > n else None


def lucas_paper_rows(n, value):
    if len(value) != 5 or n < 5 or n % 2 == 0 or not integer(value[2]) or not integer(value[3]):
        return None
    _, _, P, Q, rows = value
    if not 0 <= P < n or not 1 <= Q < n or not forms(rows, 3) or math.gcd(2 * Q * (P * P - 4 * Q), n) != 1:
        return None
    if lucas(P, Q, n + 1, n)[0] != 0:
        return None
    F = 1
    for q, e, _ in rows:
        if not full(q, e, n + 1) or math.gcd(lucas(P, Q, (n + 1) // q, n)[0], n) != 1:
            return None
        F *= q ** e
    return [(breach, q, paper) for q, _, paper in rows] if (F - 1) ** 2 > n else None


def lucas(P, Q, k, n):
    """(Uk, Vk) modulo n, by powers of the table ((P, -Q), (1, 0))."""
    def times(x, y):
        return [[sum(x[i][m] * y[m][j] for m in (0, 1)) % n for j in (0, 1)] for i in (0, 1)]

    total, square, left = [[1, 0], [0, 1]], [[P, -Q], [1, 0]], k
    while left:
        if left % 2:
            total = times(total, square)
        square, left = times(square, square), left // 2
    (a, b), (c, d) = total
    # The table's k-th power takes (U1, U0) and (V1, V0) to (Uk+1, Uk) and (Vk+1, Vk).
    return c % n, (c * P + d * 2) % n
