"""Places in a text counted in bytes, units and characters, and one text edited by programs that count differently."""
