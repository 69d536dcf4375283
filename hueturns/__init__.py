"""Rounds through places that change their hue at every place."""
