"""Knotwise: a keeper of knots and links."""
