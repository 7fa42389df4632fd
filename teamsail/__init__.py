"""Team races: judging orders and combinations, counting passes, making moves."""
