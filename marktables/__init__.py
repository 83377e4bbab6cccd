"""Marktables: which queries over marked tables can be told apart, and by which measure."""
