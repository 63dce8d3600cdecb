package space_test

import (
	"math"
	"math/rand/v2"
	"slices"
	"testing"

	"bursar/api"
	"bursar/space"
)

func made(t *testing.T, blocks, first int, taken ...int) *space.Space {
	t.Helper()
	s, e := space.New(blocks, first, taken)
	if s == nil || e != api.OK {
		t.Fatalf("New(%d, %d, %v): %d", blocks, first, taken, e)
	}
	return s
}

func takes(t *testing.T, s *space.Space, want ...int) {
	t.Helper()
	for _, w := range want {
		if block, e := s.Take(); block != w || e != api.OK {
			t.Errorf("Take = %d, %d, want %d", block, e, w)
		}
	}
}

func full(t *testing.T, s *space.Space) {
	t.Helper()
	if block, e := s.Take(); block != -1 || e != api.ErrNoSpace {
		t.Errorf("Take of a full space = %d, %d", block, e)
	}
}

func gives(t *testing.T, s *space.Space, block int, want api.Errno) {
	t.Helper()
	if e := s.Give(block); e != want {
		t.Errorf("Give(%d) = %d, want %d", block, e, want)
	}
}

func is(t *testing.T, s *space.Space, free int, taken, held []int) {
	t.Helper()
	if n := s.Free(); n != free {
		t.Errorf("Free = %d, want %d", n, free)
	}
	if blocks := s.Taken(); !slices.Equal(blocks, taken) {
		t.Errorf("Taken = %v, want %v", blocks, taken)
	}
	if blocks := s.Held(); !slices.Equal(blocks, held) {
		t.Errorf("Held = %v, want %v", blocks, held)
	}
}

func list(blocks ...int) []int { return blocks }

func rising(from, to int) []int {
	var blocks []int
	for block := from; block < to; block++ {
		blocks = append(blocks, block)
	}
	return blocks
}

// P8.1: the chapter's examples 1 to 3.
func TestExamples(t *testing.T) {
	s := made(t, 10, 4, 5, 7)
	is(t, s, 4, list(5, 7), nil)
	takes(t, s, 4, 6, 8, 9)
	full(t, s)
	is(t, s, 0, rising(4, 10), nil)

	gives(t, s, 6, api.OK)
	is(t, s, 1, list(4, 5, 7, 8, 9), nil)
	gives(t, s, 6, api.ErrFree)
	gives(t, s, 5, api.OK)
	is(t, s, 1, list(4, 7, 8, 9), list(5))
	gives(t, s, 5, api.ErrFree)
	gives(t, s, 3, api.ErrArg)
	gives(t, s, 10, api.ErrArg)
	is(t, s, 1, list(4, 7, 8, 9), list(5))
	takes(t, s, 6)

	s.Commit()
	is(t, s, 1, list(4, 6, 7, 8, 9), nil)
	gives(t, s, 4, api.OK)
	is(t, s, 1, list(6, 7, 8, 9), list(4))
	takes(t, s, 5)
	full(t, s)
	s.Back()
	is(t, s, 1, list(4, 6, 7, 8, 9), nil)
	takes(t, s, 5)
}

// P8.1: what New refuses (example 4, and the edges around it).
func TestNewRefuses(t *testing.T) {
	for _, c := range []struct {
		blocks, first int
		taken         []int
	}{
		{4097, 0, nil}, {4097, 4097, nil}, {-1, 0, nil}, {-1, -1, nil}, {9, 10, nil}, {9, -1, nil}, {0, 1, nil}, {0, -1, nil},
		{math.MaxInt, 0, nil}, {math.MinInt, 0, nil}, {9, math.MaxInt, nil}, {9, math.MinInt, nil},
		{math.MinInt, math.MinInt, nil}, {math.MaxInt, math.MaxInt, nil}, {math.MinInt, math.MaxInt, nil}, {math.MaxInt, math.MinInt, nil},
		{9, 2, list(3, 3)}, {9, 2, list(4, 3)}, {9, 2, list(2, 3, 4, 4)}, {9, 2, list(2, 8, 7)}, {9, 2, list(3, 4, 3)},
		{9, 2, list(1)}, {9, 2, list(1, 2)}, {9, 2, list(9)}, {9, 2, list(8, 9)}, {9, 2, list(0)}, {9, 0, list(-1)}, {9, 0, list(-1, 0)},
		{9, 2, list(math.MinInt)}, {9, 2, list(math.MaxInt)}, {9, 2, list(3, math.MinInt)}, {9, 2, list(3, math.MaxInt)}, {9, 0, list(math.MinInt, 0)},
		{0, 0, list(0)}, {9, 9, list(8)}, {9, 9, list(9)}, {4096, 4096, list(4096)}, {4096, 4096, list(4095)}, {4096, 0, list(4096)},
		{4096, 0, slices.Repeat(list(7), 100000)}, {4096, 0, rising(0, 5000)}, {4096, 0, rising(-1, 5000)},
	} {
		if s, e := space.New(c.blocks, c.first, c.taken); s != nil || e != api.ErrArg {
			t.Errorf("New(%d, %d, %d blocks %v) = %v, %d", c.blocks, c.first, len(c.taken), c.taken[:min(4, len(c.taken))], s, e)
		}
	}
}

// P8.1, P8.5: the smallest and the greatest spaces, empty and full.
func TestNewEdges(t *testing.T) {
	for _, c := range []struct{ blocks, first int }{{0, 0}, {1, 1}, {9, 9}, {4096, 4096}} {
		s := made(t, c.blocks, c.first)
		for range 2 {
			is(t, s, 0, nil, nil)
			full(t, s)
			for _, block := range list(-1, 0, c.first-1, c.first, c.first+1, math.MinInt, math.MaxInt) {
				gives(t, s, block, api.ErrArg)
			}
			s.Commit()
			s.Back()
		}
	}
	for _, c := range []struct{ blocks, first int }{{1, 0}, {9, 8}, {64, 2}, {4096, 4095}, {4096, 0}, {4096, 10}} {
		empty := made(t, c.blocks, c.first)
		is(t, empty, c.blocks-c.first, nil, nil)
		takes(t, empty, rising(c.first, c.blocks)...)
		full(t, empty)
		is(t, empty, 0, rising(c.first, c.blocks), nil)

		s := made(t, c.blocks, c.first, rising(c.first, c.blocks)...)
		is(t, s, 0, rising(c.first, c.blocks), nil)
		full(t, s)
		gives(t, s, c.first, api.OK)
		full(t, s)
		is(t, s, 0, rising(c.first+1, c.blocks), list(c.first))
		s.Commit()
		takes(t, s, c.first)
		full(t, s)
	}
}

// P8.1: Give looks at its number first, whatever the block ahead of the space is; refused is unchanged.
func TestGiveRefuses(t *testing.T) {
	s := made(t, 12, 4, 5, 6)
	takes(t, s, 4)
	gives(t, s, 5, api.OK)
	for _, block := range list(math.MinInt, math.MinInt+4, -1, 0, 1, 3, 12, 13, 16, 4096, math.MaxInt-4, math.MaxInt) {
		gives(t, s, block, api.ErrArg)
		is(t, s, 5, list(4, 6), list(5))
	}
	for _, block := range list(5, 7, 8, 11) {
		gives(t, s, block, api.ErrFree)
		is(t, s, 5, list(4, 6), list(5))
	}
}

// P8.1: a Commit makes what is new old, and so a later Give holds it.
func TestCommitMakesOld(t *testing.T) {
	s := made(t, 8, 2)
	takes(t, s, 2, 3)
	s.Commit()
	gives(t, s, 2, api.OK)
	is(t, s, 4, list(3), list(2))
	takes(t, s, 4)
	s.Commit()
	is(t, s, 4, list(3, 4), nil)
	takes(t, s, 2)
	gives(t, s, 2, api.OK)
	is(t, s, 4, list(3, 4), nil)
	s.Commit()
	s.Commit()
	is(t, s, 4, list(3, 4), nil)
}

// P8.1: Back leaves the state of the last Commit as the one to come back to.
func TestBackTwice(t *testing.T) {
	s := made(t, 8, 2, 3, 5)
	for range 3 {
		s.Back()
		is(t, s, 4, list(3, 5), nil)
		takes(t, s, 2)
		gives(t, s, 3, api.OK)
		takes(t, s, 4)
		gives(t, s, 2, api.OK)
		is(t, s, 3, list(4, 5), list(3))
	}
	s.Back()
	gives(t, s, 4, api.ErrFree)
	gives(t, s, 3, api.OK)
	s.Commit()
	s.Back()
	is(t, s, 5, list(5), nil)
	takes(t, s, 2, 3)
}

// P8.1: what is handed in is neither kept nor changed, its spare room neither; what is answered is new memory.
func TestNothingIsShared(t *testing.T) {
	room := list(3, 4, 6, 91, 92, 93)
	s := made(t, 10, 2, room[:3]...)
	gives(t, s, 4, api.OK)
	takes(t, s, 2, 5)
	s.Commit()
	gives(t, s, 3, api.OK)
	gives(t, s, 6, api.OK)
	if !slices.Equal(room, list(3, 4, 6, 91, 92, 93)) {
		t.Errorf("the list that was handed in is %v", room)
	}
	room[0], room[1] = 7, 8
	is(t, s, 4, list(2, 5), list(3, 6))

	taken, held := s.Taken(), s.Held()
	again := s.Taken()
	taken[0], held[0] = 77, 78
	_, _ = append(taken, 79), append(held, 80)
	if !slices.Equal(again, list(2, 5)) {
		t.Errorf("an answer that is written into changes another: %v", again)
	}
	is(t, s, 4, list(2, 5), list(3, 6))
	takes(t, s, 4)
	gives(t, s, 5, api.OK)
	if !slices.Equal(taken, list(77, 5)) || !slices.Equal(held, list(78, 6)) || !slices.Equal(again, list(2, 5)) {
		t.Errorf("calls change what was answered: %v, %v, %v", taken, held, again)
	}
}

// P8.1: spaces stand by themselves.
func TestSpacesStandAlone(t *testing.T) {
	one, two := made(t, 6, 1, 2), made(t, 6, 1, 2)
	takes(t, one, 1, 3)
	gives(t, one, 2, api.OK)
	is(t, two, 4, list(2), nil)
	two.Commit()
	is(t, one, 2, list(1, 3), list(2))
	one.Commit()
	takes(t, two, 1)
	is(t, one, 3, list(1, 3), nil)
}

// What a block is, in the chapter's words.
const (
	isFree = "free"
	isNew  = "new"
	isOld  = "old"
	isHeld = "held"
)

// paper is a space on paper, word by word, with what it was at the last Commit.
type paper struct {
	blocks, first int
	now, then     map[int]string
}

func onPaper(blocks, first int, taken []int) *paper {
	p := &paper{blocks: blocks, first: first, now: map[int]string{}}
	for block := first; block < blocks; block++ {
		p.now[block] = isFree
	}
	for _, block := range taken {
		p.now[block] = isOld
	}
	p.keep()
	return p
}

func (p *paper) keep() {
	p.then = map[int]string{}
	for block, word := range p.now {
		p.then[block] = word
	}
}

func (p *paper) take() (int, api.Errno) {
	for block := p.first; block < p.blocks; block++ {
		if p.now[block] == isFree {
			p.now[block] = isNew
			return block, api.OK
		}
	}
	return -1, api.ErrNoSpace
}

func (p *paper) give(block int) api.Errno {
	word, there := p.now[block]
	if !there {
		return api.ErrArg
	}
	if word == isFree || word == isHeld {
		return api.ErrFree
	}
	p.now[block] = map[string]string{isNew: isFree, isOld: isHeld}[word]
	return api.OK
}

func (p *paper) commit() {
	for block, word := range p.now {
		switch word {
		case isNew:
			p.now[block] = isOld
		case isHeld:
			p.now[block] = isFree
		}
	}
	p.keep()
}

func (p *paper) back() {
	p.now = p.then
	p.keep()
}

func (p *paper) those(words ...string) []int {
	var blocks []int
	for block := p.first; block < p.blocks; block++ {
		if slices.Contains(words, p.now[block]) {
			blocks = append(blocks, block)
		}
	}
	return blocks
}

// somewhere tells a space's measures, and some of its blocks.
func somewhere(r *rand.Rand, most int) (int, int, []int) {
	blocks := r.IntN(most + 1)
	first := r.IntN(blocks + 1)
	share := r.IntN(5)
	var taken []int
	for block := first; block < blocks; block++ {
		if r.IntN(4) < share {
			taken = append(taken, block)
		}
	}
	return blocks, first, taken
}

// parts holds what P8.2 says of the three answers, and gives them.
func parts(t *testing.T, s *space.Space, blocks, first int) (int, []int, []int) {
	t.Helper()
	free, taken, held := s.Free(), s.Taken(), s.Held()
	if free < 0 || free+len(taken)+len(held) != blocks-first {
		t.Fatalf("Free %d, %d taken, %d held of %d blocks", free, len(taken), len(held), blocks-first)
	}
	all := slices.Concat(taken, held)
	slices.Sort(all)
	if len(slices.Compact(slices.Clone(all))) != len(all) {
		t.Fatalf("a block stands twice in %v and %v", taken, held)
	}
	if len(all) > 0 && (all[0] < first || all[len(all)-1] >= blocks) {
		t.Fatalf("blocks outside %d to %d in %v and %v", first, blocks-1, taken, held)
	}
	if !slices.IsSorted(taken) || !slices.IsSorted(held) {
		t.Fatalf("not rising: %v and %v", taken, held)
	}
	return free, taken, held
}

// P8.1, P8.2, P8.5: scripts of calls, each answer held against the space on paper.
func TestAgainstPaper(t *testing.T) {
	r := rand.New(rand.NewPCG(8, 1))
	for range 3000 {
		blocks, first, taken := somewhere(r, 20)
		s, p := made(t, blocks, first, taken...), onPaper(blocks, first, taken)
		for range 60 {
			switch r.IntN(12) {
			case 0:
				s.Commit()
				p.commit()
			case 1:
				s.Back()
				p.back()
			case 2, 3, 4, 5, 6:
				block, e := s.Take()
				if want, errno := p.take(); block != want || e != errno {
					t.Fatalf("Take = %d, %d, want %d, %d", block, e, want, errno)
				}
			default:
				block := r.IntN(blocks-first+3) + first - 1
				if e, errno := s.Give(block), p.give(block); e != errno {
					t.Fatalf("Give(%d) = %d, want %d", block, e, errno)
				}
			}
			free, taken, held := parts(t, s, blocks, first)
			if free != len(p.those(isFree)) || !slices.Equal(taken, p.those(isNew, isOld)) || !slices.Equal(held, p.those(isHeld)) {
				t.Fatalf("Free %d, Taken %v, Held %v, want %v", free, taken, held, p.now)
			}
		}
	}
}

// P8.3: what stood in Taken behind the last Commit (or New) is given out by no Take ahead of the next, whatever is given back.
func TestCommittedIsNotGivenOut(t *testing.T) {
	r := rand.New(rand.NewPCG(8, 3))
	for range 500 {
		blocks, first, taken := somewhere(r, 40)
		s := made(t, blocks, first, taken...)
		for range 20 {
			named := s.Taken()
			for range r.IntN(60) {
				switch r.IntN(20) {
				case 0:
					s.Back()
				case 1, 2, 3, 4, 5, 6, 7, 8, 9:
					if block, e := s.Take(); e == api.OK && slices.Contains(named, block) {
						t.Fatalf("Take answers %d, which the last Commit names: %v", block, named)
					}
				default:
					s.Give(first + r.IntN(blocks-first+1))
				}
			}
			s.Commit()
		}
	}
}

// call: Take, where block is -1; else Give of it.
type call struct {
	block int
	took  int
	errno api.Errno
}

func do(s *space.Space, block int) call {
	if block < 0 {
		took, e := s.Take()
		return call{block, took, e}
	}
	return call{block, 0, s.Give(block)}
}

// P8.4: Back undoes all since the last Commit, and the same calls, done again, answer the same.
func TestBackUndoes(t *testing.T) {
	r := rand.New(rand.NewPCG(8, 4))
	for range 500 {
		blocks, first, taken := somewhere(r, 40)
		s := made(t, blocks, first, taken...)
		for range 10 {
			free, taken, held := parts(t, s, blocks, first)
			var calls []call
			for range r.IntN(60) {
				block := -1
				if r.IntN(2) == 0 {
					block = first + r.IntN(blocks-first+1)
				}
				calls = append(calls, do(s, block))
			}
			freeThen, takenThen, heldThen := parts(t, s, blocks, first)
			s.Back()
			is(t, s, free, taken, held)
			for _, c := range calls {
				if again := do(s, c.block); again != c {
					t.Fatalf("done again %v answers %v", c, again)
				}
			}
			is(t, s, freeThen, takenThen, heldThen)
			s.Commit()
		}
	}
}

// P8.5: Take answers the lowest block that is in neither list, and is refused just if there is none.
func TestTakeIsLowest(t *testing.T) {
	r := rand.New(rand.NewPCG(8, 5))
	for range 2000 {
		blocks, first, taken := somewhere(r, 60)
		s := made(t, blocks, first, taken...)
		for range 40 {
			gone := slices.Concat(s.Taken(), s.Held())
			want, errno := -1, api.ErrNoSpace
			for block := blocks - 1; block >= first; block-- {
				if !slices.Contains(gone, block) {
					want, errno = block, api.OK
				}
			}
			if block, e := s.Take(); block != want || e != errno {
				t.Fatalf("Take = %d, %d, want %d, %d beside %v", block, e, want, errno, gone)
			}
			for range r.IntN(3) {
				s.Give(first + r.IntN(blocks-first+1))
			}
			if r.IntN(10) == 0 {
				s.Commit()
			}
		}
	}
}
