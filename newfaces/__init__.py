"""Newfaces: rounds of tables at which no two sit together twice."""
