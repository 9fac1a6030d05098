"""Twigfinds: little trees found in trees."""
