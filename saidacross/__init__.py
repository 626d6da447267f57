"""Saidacross: how much must be said of a row whose places are dealt out."""
