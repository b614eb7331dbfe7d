"""What all modules share: names, and whole numbers, their primes and squares, their roots and figures."""

# These are all the primes that a root may have in it.
PRIMES = (
    2, 3, 5, 7, 11, 13, 17, 19, 23, 29, 31, 37, 41, 43, 47, 53, 59, 61, 67, 71, 73, 79, 83, 89, 97,
    101, 103, 107, 109, 113, 127, 131, 137, 139, 149, 151, 157, 163, 167, 173, 179, 181, 191, 193, 197, 199,
    211, 223, 227, 229, 233, 239, 241, 251, 257, 263, 269, 271, 277, 281, 283, 293,
    307, 311, 313, 317, 331, 337, 347, 349, 353, 359, 367, 373, 379, 383, 389, 397,
    401, 409, 419, 421, 431, 433, 439, 443, 449, 457, 461, 463, 467, 479, 487, 491, 499,
    503, 509, 521, 523, 541, 547, 557, 563, 569, 571, 577, 587, 593, 599,
    601, 607, 613, 617, 619, 631, 641, 643, 647, 653, 659, 661, 673, 677, 683, 691,
    701, 709, 719, 727, 733, 739, 743, 751, 757, 761, 769, 773, 787, 797,
    809, 811, 821, 823, 827, 829, 839, 853, 857, 859, 863, 877, 881, 883, 887,
    907, 911, 919, 929, 937, 941, 947, 953, 967, 971, 977, 983, 991, 997,
)

# Python refuses to write or read more than some thousand figures at once, so long numbers go block by block.
BLOCK_FIGURES = 64
BLOCK = 10 ** 64
LONGEST_NAME = 8


def is_whole(thing):
    """Whether it is an int that is no truth."""
    return isinstance(thing, int) and not isinstance(thing, bool)


def is_name(thing):
    """Whether it is a text of one to eight small letters."""
    if not isinstance(thing, str) or len(thing) > LONGEST_NAME:
        return False
    return thing.isascii() and thing.isalpha() and thing.islower()


def are_unlike(things):
    """Whether no two of a list of things, whatever they are, are the same."""
    return all([thing not in things[:at] for at, thing in enumerate(things)])


def shared(one, other):
    """The greatest whole number that divides both (0 of two noughts)."""
    while other != 0:
        one, other = other, one % other
    return abs(one)


def in_lowest(top, bottom):
    """The fraction as (top, bottom) in lowest terms, the bottom above 0."""
    common = shared(top, bottom)
    if bottom < 0:
        common = -common
    return top // common, bottom // common


def sum_in_lowest(top, bottom, other, below):
    """top / bottom + other / below as (top, bottom) in lowest terms, where both fractions are."""
    common = shared(bottom, below)
    found = top * (below // common) + other * (bottom // common)
    # Only what both bottoms share can divide the new top, so the long numbers needn't be compared whole.
    left = shared(found, common)
    return found // left, (bottom // common) * (below // left)


def primes_in(number):
    """The rising list of the primes below 1000 that divide a number above 0."""
    return [prime for prime in PRIMES if number % prime == 0]


def squares_out(number):
    """(outside, inside, rest) of a number from 0 on, which is outside * outside * inside * rest.

    The inside has no square in it and primes below 1000 alone, the rest no prime below 1000.
    """
    if number == 0:
        return 0, 1, 1
    outside, inside = 1, 1
    for prime in PRIMES:
        if number == 1:
            break
        while number % (prime * prime) == 0:
            number //= prime * prime
            outside *= prime
        if number % prime == 0:
            number //= prime
            inside *= prime
    return outside, inside, number


def floor_root(number):
    """The root of a number from 0 on, rounded down."""
    if number == 0:
        return 0
    half = (number.bit_length() - 1) // 2
    near, known = 1, 0
    # Each step makes about twice as many leading bits right, so the long divisions are few.
    for step in reversed(range(half.bit_length())):
        before = known
        known = half >> step
        near = (near << (known - before - 1)) + (number >> (2 * half - before - known + 1)) // near
    return near - 1 if near * near > number else near


def figures(number):
    """The text of a number from 0 on, however long."""
    blocks = []
    while number >= BLOCK:
        number, low = divmod(number, BLOCK)
        blocks.append(str(low).zfill(BLOCK_FIGURES))
    blocks.append(str(number))
    return "".join(blocks[::-1])


def read_figures(text):
    """The number of a text of figures, however many; None of another text."""
    if not (text.isascii() and text.isdigit()):
        return None
    number = 0
    first = len(text) % BLOCK_FIGURES
    if first > 0:
        number = int(text[:first])
    for at in range(first, len(text), BLOCK_FIGURES):
        number = number * BLOCK + int(text[at:at + BLOCK_FIGURES])
    return number


def is_odd(number):
    """Whether a power of -1 with this number is -1."""
    return number % 2 == 1


def sign_to(power):
    """-1 to a power."""
    return -1 if is_odd(power) else 1


def factorials(high):
    """The list of n! for each n from 0 to high."""
    found = [1]
    for number in range(1, high + 1):
        found.append(found[-1] * number)
    return found


def binomials(high):
    """The list of how many choices of n out of high there are, for each n from 0 to high."""
    found = [1]
    for number in range(high):
        found.append(found[-1] * (high - number) // (number + 1))
    return found


def primes_of_factorials(above, below):
    """The list of (prime, power) of the product of n! of all n above over that of all n below, none above 1000."""
    high = max([*above, *below])
    # How often each factor stands above, less how often below: n! brings each factor up to n once.
    counts = [0] * (high + 1)
    for number in above:
        counts[number] += 1
    for number in below:
        counts[number] -= 1
    for number in reversed(range(high)):
        counts[number] += counts[number + 1]
    found = []
    for prime in PRIMES:
        if prime > high:
            break
        power, step = 0, prime
        while step <= high:
            power += sum(counts[step::step])
            step *= prime
        found.append((prime, power))
    return found
