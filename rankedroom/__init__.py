"""Room and rank: what a node with little room holds, and what goes for what."""
