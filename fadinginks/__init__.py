"""Fadinginks: boards written late, in inks that fade."""
