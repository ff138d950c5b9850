"""Companies of friends, and the deeds that are let among them by the parity of third people."""
