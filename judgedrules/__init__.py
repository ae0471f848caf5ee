"""Programs of rules judged: names, kinds, what's bound, strata, rings."""
