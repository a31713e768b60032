"""Fewboxes: formulas reckoned in few boxes, and why fewer deeds will not do."""
