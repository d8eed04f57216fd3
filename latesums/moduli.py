"""Moduli: numbers 2 ** bits - 1 with a prime number of bits, no two of which have a divisor in common."""

FIRST_BITS = 127
LONG_BITS = 1009


def modulus_of(bits):
    """The modulus of so many bits, a prime number; it has no divisor from 2 to `bits`."""
    return (1 << bits) - 1


def prime_from(number):
    """The least prime number that is at least a number above 1."""
    while not is_prime(number):
        number = number + 1
    return number


def is_prime(number):
    """Whether a number above 1 is a prime number."""
    divisor = 2
    while divisor * divisor <= number:
        if number % divisor == 0:
            return False
        divisor = divisor + 1
    return True
