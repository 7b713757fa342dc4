"""Kindturn: kinds of things, and turnings that keep things one to one."""
