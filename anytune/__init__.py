"""Anytune: patterns in endless time with holes for tunes."""
