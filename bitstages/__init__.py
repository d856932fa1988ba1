"""Bitstages: values of 2 ** n places moved by stages."""
