"""Carpetkin: carpets without end, their kin, and how to mend them."""
