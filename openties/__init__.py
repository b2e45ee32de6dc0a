"""Openties: reports that come out the same whatever the order of equal rows."""
