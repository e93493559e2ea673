"""Object graphs: who keeps whom, kept sizes, cuts and parted ways."""
