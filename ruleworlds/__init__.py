"""Ruleworlds: rules with "not", their answers, and programs that are alike."""
