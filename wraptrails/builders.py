"""Building worlds in which no wrapping gateway is noticed."""

from wraptrails.cycles import shortest_cycle
from wraptrails.errors import (BadGateway, BadRegions, ClosesCycle, NothingDone, TakenGateway, TooMany,
                               UnknownGateway)
from wraptrails.worlds import MOST_GATEWAYS, gateway_names, is_gateway, is_regions


class Builder:
    """A world that grows and shrinks by one gateway at a time."""

    def __init__(self, regions):
        if not is_regions(regions):
            raise BadRegions(regions)
        self.own_world = (regions, ())
        # The worlds before each call that can be taken back.
        self.earlier = []

    def change(self, gateways):
        """Go on to the world with these gateways."""
        self.earlier.append(self.own_world)
        self.own_world = (self.own_world[0], gateways)

    def add(self, name, members, *, kind="wrap"):
        """Add a gateway, which may be any values."""
        regions, gateways = self.own_world
        gateway = (name, members, kind)
        if not is_gateway(regions, gateway):
            raise BadGateway(name, members, kind)
        if name in gateway_names(self.own_world):
            raise TakenGateway(name)
        if len(gateways) >= MOST_GATEWAYS:
            raise TooMany(len(gateways) + 1)
        larger = tuple(sorted(gateways + (gateway,)))
        cycle = shortest_cycle((regions, larger))
        if cycle is not None:
            raise ClosesCycle(cycle)
        self.change(larger)

    def remove(self, name):
        """Remove the gateway with this name, which may be any value."""
        if name not in gateway_names(self.own_world):
            raise UnknownGateway(name)
        self.change(tuple([gateway for gateway in self.own_world[1] if gateway[0] != name]))

    def world(self):
        """Return the world."""
        return self.own_world

    def __len__(self):
        """Return the number of calls that can be taken back."""
        return len(self.earlier)

    def back(self):
        """Take back the last call of add or remove."""
        if not self.earlier:
            raise NothingDone()
        self.own_world = self.earlier.pop()
