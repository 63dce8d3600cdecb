package fsck_test

import (
	"math/rand/v2"
	"slices"
	"testing"

	"bursar/api"
)

// flip changes a burst of so many bits from a bit on: its first and last, and any of those between.
func flip(r *rand.Rand, b []byte, from, bits int) []byte {
	b = slices.Clone(b)
	for i := range bits {
		if i == 0 || i == bits-1 || r.IntN(2) == 0 {
			b[(from+i)/8] ^= 1 << ((from + i) % 8)
		}
	}
	return b
}

// P25.5: in each page of a tree, ahead of its sum (bytes 0 to 3), in it (4 to 7) and behind it.
func TestSpoiltPages(t *testing.T) {
	chains, leaves, inners := 0, 0, 0
	for seed := range uint64(12) {
		r := source(200000 + seed)
		d := grown(t, r)
		s := counting(t, d)
		pages, firsts := pagesOf(d, s)
		if l, _ := tree(t, d, s); len(l) != 0 {
			t.Fatalf("seed %d: %v", seed, l)
		}
		for _, block := range blocksOf(pages) {
			want := api.Problem{Rule: 3, Block: block}
			if first := firsts[block]; first != 0 {
				want = api.Problem{Rule: 7, Block: first}
				chains++
			} else if pages[block].Kind == 1 {
				leaves++
			} else {
				inners++
			}
			was, _ := d.Raw(block)
			for range 12 {
				bits := pick(r, 1, 2, 31, 32, 1+r.IntN(32))
				for _, area := range [][2]int{{0, 32}, {32, 64}, {64, 4096}} {
					from := area[0] + pick(r, 0, r.IntN(area[1]-area[0]-bits+1), area[1]-area[0]-bits)
					d.Edit(block, 0, flip(r, was, from, bits))
					// As many as there are: one page alone can bring but few problems.
					if l := onlyTree(t, d, s); !slices.Contains(l, want) {
						t.Fatalf("seed %d: %d bits from %d on in block %d: %v, want %v", seed, bits, from, block, l, want)
					}
				}
			}
			d.Edit(block, 0, was)
		}
		if l, _ := tree(t, d, s); len(l) != 0 {
			t.Fatalf("seed %d, mended: %v", seed, l)
		}
	}
	if chains < 50 || leaves < 50 || inners < 8 {
		t.Errorf("%d pages of chains, %d leaves, %d inner pages", chains, leaves, inners)
	}
}
