"""Newsflood: notes handed on from house to house."""
