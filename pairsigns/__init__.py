"""Pairsigns: a query engine that sorts only where two rows show that it must."""
