"""Onceways: ways that come to no place twice."""
