"""Team races: judging orders, counting passes, making moves, solving what is left of a match."""
