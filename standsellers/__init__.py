"""Standsellers: where sellers stand on a web of roads, and whether they rest."""
