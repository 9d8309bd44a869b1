"""Walkdues: branching tasks on one processor, and what fits beside them."""
