"""Remadehere: a text made another one in its own room, whatever cuts it off."""
