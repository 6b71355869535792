"""Inflatefloor: floors that grow by rule, reckoned exactly."""
