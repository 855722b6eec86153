// Package bounds: whether numbers that are handed in lie where they may.
package bounds

// Within tells whether a number is neither below the least nor above the most. It only compares, so that no number is too great for it.
func Within(n, least, most int) bool { return least <= n && n <= most }
