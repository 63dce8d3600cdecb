package store_test

import (
	"fmt"
	"math/rand/v2"
	"slices"
	"strings"
	"testing"

	"bursar/api"
	"bursar/store"
)

// shapes: lengths of keys and values that cost the tree most for their weight, and others.
var shapes = [][2]int{{120, 64}, {120, 65}, {120, 501}, {1, 65}, {60, 64}, {120, 0}, {2, 0}, {4, 300}, {8, 8192}, {3, 1001}}

// filled: entries of one shape, as many as have room.
func filled(r *rand.Rand, shape [2]int, most int) map[string]string {
	values := map[string]string{}
	left := most
	for i := 0; i < 4000; i++ {
		key := fmt.Sprintf("%04d", r.IntN(10000))
		if shape[0] < 4 {
			key = string([]byte{byte(1 + r.IntN(255)), byte(r.IntN(256)), byte(r.IntN(256))}[:shape[0]])
		} else {
			key = (key + strings.Repeat("k", 116))[:shape[0]]
		}
		length := min(shape[1], left-32-len(key))
		if length < 0 {
			break
		}
		if _, twice := values[key]; !twice {
			values[key] = text(length)
			left -= 32 + len(key) + length
		}
	}
	return values
}

// between: the changes from one state to another, cut into lists each of whose records the log takes for sure, each state within most.
func between(r *rand.Rand, x state, to map[string]string, log, most int) [][]api.Change {
	var all []api.Change
	for key := range x.values {
		if _, stays := to[key]; !stays {
			all = append(all, gone(key))
		}
	}
	slices.SortFunc(all, func(a, b api.Change) int { return strings.Compare(a.Key, b.Key) })
	var puts []api.Change
	for key, value := range to {
		puts = append(puts, set(key, value))
	}
	slices.SortFunc(puts, func(a, b api.Change) int { return strings.Compare(a.Key, b.Key) })
	r.Shuffle(len(puts), func(i, j int) { puts[i], puts[j] = puts[j], puts[i] })
	all = append(all, puts...)
	var lists [][]api.Change
	for len(all) > 0 {
		n := 1
		for n < len(all) && len(recordOf(1<<40, all[:n+1])) <= min(32768, logBytes*(log-2)-64) {
			n++
		}
		lists = append(lists, all[:n])
		all = all[n:]
	}
	return lists
}

// TestRoom: within ROOM no call answers ErrNoSpace, and no Apply of a record that is short enough ErrLogFull, however the states follow one another.
func TestRoom(t *testing.T) {
	for i, c := range []struct{ blocks, log int }{{64, 22}, {64, 8}, {100, 8}, {100, 30}, {250, 20}, {470, 40}, {900, 60}} {
		most := 512 * (c.blocks - 2 - c.log - 32) / 24
		r := random(uint64(40 + i))
		d := device(t, c.blocks)
		x := state{0, filled(r, shapes[i%2], most)}
		l, _ := x.scan("", "", len(x.values))
		lay(t, d, c.log, 0, l...)
		s := open(t, d)
		for round := range 40 {
			to := filled(r, shapes[(round+r.IntN(3))%len(shapes)], most)
			lists := between(r, x, to, c.log, most)
			for _, l := range lists {
				next := x.next(l)
				if next.weight() > most || len(recordOf(next.version, l)) > logBytes*(c.log-2)-64 {
					continue
				}
				is(t, fmt.Sprintf("Apply on %d blocks, round %d", c.blocks, round), s.Apply(l), api.OK)
				x = next
			}
			if round%3 == 0 {
				is(t, fmt.Sprintf("Checkpoint on %d blocks, round %d", c.blocks, round), s.Checkpoint(), api.OK)
			}
			if round%10 == 0 {
				holds(t, s, x)
			}
		}
		holds(t, s, x)
		is(t, "Sync", s.Sync(), api.OK)
		holds(t, open(t, d), x)
	}
}

// TestLayRoom: within ROOM Lay finds room, on a device of any size.
func TestLayRoom(t *testing.T) {
	for i, c := range []struct{ blocks, log int }{{64, 22}, {64, 8}, {128, 8}, {470, 40}, {4096, 512}, {4096, 8}} {
		most := 512 * (c.blocks - 2 - c.log - 32) / 24
		for j, shape := range shapes {
			x := state{3, filled(random(uint64(60+i*10+j)), shape, most)}
			l, _ := x.scan("", "", len(x.values))
			d := device(t, c.blocks)
			is(t, fmt.Sprintf("Lay on %d blocks, shape %v", c.blocks, shape), store.Lay(d, c.log, 3, l), api.OK)
			holds(t, open(t, d), x)
		}
	}
}
