"""Which secrets must be rotated, and in which order: the cheapest plan, and why none is cheaper."""
