"""Tables: a net with a planned time for each going and a beat."""

from ringbeat.errors import NoFit


class Table:
    def __init__(self, net, times, beat):
        self.net = net
        self.times = list(times)
        self.beat = beat
        for number in range(len(net.arrows)):
            if self.slack(number) < 0:
                raise NoFit(number)

    def slack(self, arrow):
        link = self.net.arrows[arrow]
        return self.times[link.goal] + self.beat * link.behind - self.times[link.start] - link.time

    def planned(self, going, number):
        return self.times[going] + number * self.beat
