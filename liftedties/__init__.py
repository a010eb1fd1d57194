"""Liftedties: ties handed over, and what no handing over changes."""
