"""Ferrynight: things brought over a river by a small boat."""
