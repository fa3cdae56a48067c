"""Order: in which order the units of a file stand, and which of them its index names."""
