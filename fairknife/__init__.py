"""Fairknife: one long cake, many tastes, and cuts by which each has a share by its own."""
