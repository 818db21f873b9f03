"""Pieces of webs of both and either knots with open doors, told for all surroundings."""
