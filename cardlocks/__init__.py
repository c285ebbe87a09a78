"""Commutative locks for cards: deals, openings and audits with revealed keys."""
