"""Fewterms: sayings over a few lamps, told by as few terms as can be."""
