"""Fifthhost: how many logs replicas without a chief want, and a store that keeps them."""
