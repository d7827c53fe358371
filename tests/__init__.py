"""Tests of standsellers."""
