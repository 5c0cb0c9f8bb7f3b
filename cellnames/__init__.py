"""Names of a notebook's cell: made, read, bound, renamed."""
