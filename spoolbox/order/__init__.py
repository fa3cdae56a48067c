"""Order: which units the index of a file names."""
