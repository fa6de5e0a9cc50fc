"""Potential-based reward shaping: equivalence and regret."""
