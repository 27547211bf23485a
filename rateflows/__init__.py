"""Rateflows: flows of boxes that eat and give tokens at rates."""
