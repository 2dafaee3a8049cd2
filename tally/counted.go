package tally

import "tallyman/api"

// counted is a series and its numbers.
type counted struct {
	age    int
	plain  string
	number int                // of a Histogram the sum
	all    int                // of a Histogram: how many numbers were counted
	upto   [api.MaxLimits]int // and how many of them each limit is not below
}

func plainOf(c *counted) string { return c.plain }

func (c *counted) copied(age int) *counted {
	made := *c
	made.age = age
	return &made
}

func inBounds(n int) bool { return -api.MaxNumber <= n && n <= api.MaxNumber }

// stopped is n, or the bound that n would go beyond.
func stopped(n int) int {
	return max(-api.MaxNumber, min(n, api.MaxNumber))
}
