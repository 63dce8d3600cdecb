package fsck

import (
	"cmp"
	"slices"

	"bursar/api"
)

// The rules, by their numbers.
const (
	ruleOutside    = 1 // a block that isn't of the tree's region
	ruleAgain      = 2 // a block that was met before
	ruleNoPage     = 3 // neither a leaf nor an inner page
	ruleThin       = 4 // a page that isn't a quarter full
	ruleAstray     = 5 // a page with a key beyond its bounds
	ruleUneven     = 6 // a leaf at another depth than the first
	ruleNoValue    = 7 // a chain that holds no long value
	ruleMiscounted = 8
	ruleSpent      = 9 // a superblock behind which no other can come

	ruleNoChanges = 11 // a record of the log that is none
	ruleJumping   = 12 // one whose version isn't the next

	ruleUnordered = 21 // an entry whose key isn't above the last
	ruleNoRecord  = 22
	ruleHomeless  = 23 // a record whose namespace isn't there
	ruleCrowded   = 24 // one more than a namespace may hold
	ruleOverflown = 25 // an object with which a sum is above every amount
	ruleExceeded  = 26 // a quota below what is used
)

// asking: for a rule at a place. Whether it is broken there is noted, and told on.
type asking func(place int, broken bool) bool

// findings: the problems that were found, in the order in which they were met.
type findings struct {
	met []api.Problem
}

// rule tells a function that remembers the rule, and notes where it is broken.
func (f *findings) rule(number int) asking {
	return func(place int, broken bool) bool {
		if broken {
			f.met = append(f.met, api.Problem{Rule: number, Block: place})
		}
		return broken
	}
}

func (f *findings) none() bool { return len(f.met) == 0 }

// first tells the first most problems, by rule, then block, each once.
func (f *findings) first(most int) []api.Problem {
	slices.SortFunc(f.met, func(a, b api.Problem) int {
		return cmp.Or(cmp.Compare(a.Rule, b.Rule), cmp.Compare(a.Block, b.Block))
	})
	f.met = slices.Compact(f.met)
	return slices.Clone(f.met[:min(most, len(f.met))])
}
