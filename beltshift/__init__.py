"""Beltshift: rooms of hands and belts, their trays moved so that little time lies between two bells."""
