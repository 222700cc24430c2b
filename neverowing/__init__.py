"""Neverowing: many worlds, one foe, one purse."""
