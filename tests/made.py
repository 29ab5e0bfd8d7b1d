"""Nets made for several tests."""

from layerdraw.nets import Net
from layerdraw.reading import read_net

LETTERS = "abcdefghijklmnopqrst"


def net_of(*lines):
    return read_net("\n".join(lines))


def random_net(chance, count, arrows, sames, mosts, span, number):
    """A net with so many of each; arrows with spans up to the told one, mosts with numbers up to the told one."""
    net = Net()
    for name in LETTERS[:count]:
        net.put_point(name, chance.randint(0, 50))
    for time in range(arrows):
        net.put_arrow(*chance.sample(LETTERS[:count], 2), chance.randint(1, span), chance.choice((1, 2, 7, 10 ** 6)))
    for time in range(sames):
        net.put_same(*chance.sample(LETTERS[:count], 2))
    for time in range(mosts):
        net.put_most(*chance.sample(LETTERS[:count], 2), chance.randint(0, number))
    return net
