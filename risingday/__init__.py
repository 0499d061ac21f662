"""Risingday: a house to which people come by the clock."""
