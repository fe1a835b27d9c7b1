package delta

import (
	"math"
	"math/big"
	"slices"
	"strings"
	"testing"

	"gluepot/api"
	"gluepot/seq"
)

// counted is a pair with how often it is there.
type counted struct {
	pair api.Pair
	n    int
}

// model works a count out by the document's own words: in a list that is kept rising, with numbers that have no end.
type model []counted

func (m *model) add(q api.Pair, by, times int) api.Errno {
	if times < 0 {
		return api.ErrArg
	}
	most := big.NewInt(api.MaxCount)
	product := new(big.Int).Mul(big.NewInt(int64(by)), big.NewInt(int64(times)))
	if by == math.MinInt || new(big.Int).Abs(product).Cmp(most) > 0 {
		return api.ErrOverflow
	}
	at := 0
	for at < len(*m) && ((*m)[at].pair.A < q.A || (*m)[at].pair.A == q.A && (*m)[at].pair.B < q.B) {
		at++
	}
	there := at < len(*m) && (*m)[at].pair.A == q.A && (*m)[at].pair.B == q.B
	if there {
		product.Add(product, big.NewInt(int64((*m)[at].n)))
	}
	if product.Sign() < 0 || product.Cmp(most) > 0 {
		return api.ErrOverflow
	}
	if there {
		*m = slices.Delete(*m, at, at+1)
	}
	if product.Sign() > 0 {
		*m = slices.Insert(*m, at, counted{q, int(product.Int64())})
	}
	return api.OK
}

func (m *model) get(q api.Pair) int {
	for _, x := range *m {
		if x.pair == q {
			return x.n
		}
	}
	return 0
}

func (m *model) pairs() []api.Pair {
	var l []api.Pair
	for _, x := range *m {
		l = append(l, x.pair)
	}
	return l
}

// apply holds what was there against what is there, pair by pair.
func (m *model) apply(l []seq.Change, times int) ([]api.Pair, api.Errno) {
	was := slices.Clone(*m)
	for _, x := range l {
		if e := m.add(x.Pair, x.By, times); e != api.OK {
			return nil, e
		}
	}
	// In a model of their own the pairs stand once, and rising.
	changed := model{}
	for _, x := range slices.Concat(was, *m) {
		if was.get(x.pair) != m.get(x.pair) && changed.get(x.pair) == 0 {
			changed.add(x.pair, 1, 1)
		}
	}
	return changed.pairs(), api.OK
}

func p(a, b int) api.Pair { return api.Pair{A: a, B: b} }

func by(a, b, n int) seq.Change { return seq.Change{Pair: p(a, b), By: n} }

func of(l ...counted) model { return l }

func at(a, b, n int) counted { return counted{p(a, b), n} }

// filled is a count with these pairs.
func filled(t *testing.T, l model) *Counts {
	t.Helper()
	c := New()
	for _, x := range l {
		if e := c.Add(x.pair, x.n, 1); e != api.OK {
			t.Fatalf("Add of %v: %d", x, e)
		}
	}
	return c
}

// hold asks the count for all that it can tell.
func hold(t *testing.T, c *Counts, want model) {
	t.Helper()
	if l := c.All(); !slices.Equal(l, want.pairs()) {
		t.Errorf("All: %v; want %v", l, want)
	}
	if n := c.Len(); n != len(want) {
		t.Errorf("Len: %d; want %d", n, len(want))
	}
	for _, x := range want {
		if n := c.Get(x.pair); n != x.n {
			t.Errorf("Get of %v: %d; want %d", x.pair, n, x.n)
		}
	}
	for _, q := range []api.Pair{{}, p('a', 'b'), p('b', 'a'), p('z', 'z'), p(-7, 1), p(1, -7), p(math.MinInt, math.MaxInt), p(math.MaxInt, math.MinInt)} {
		if n := c.Get(q); n != want.get(q) {
			t.Errorf("Get of %v: %d; want %d", q, n, want.get(q))
		}
	}
}

func holdApply(t *testing.T, c *Counts, l []seq.Change, times int, changed []api.Pair, e api.Errno, want model) {
	t.Helper()
	if got, gotE := c.Apply(l, times); gotE != e || !slices.Equal(got, changed) {
		t.Errorf("Apply of %v, %d: %v, %d; want %v, %d", l, times, got, gotE, changed, e)
	}
	hold(t, c, want)
}

// numbers are the edges of what is within, of 32 and 63 bits, and of what has a square that is within.
func numbers() []int {
	return []int{
		math.MinInt, math.MinInt + 1, math.MinInt + 2, -1 << 62, -1 << 32, -3037000500, -3037000499, -7, -3, -2, -1,
		0, 1, 2, 3, 7,
		3037000499, 3037000500, // the roots next to 2^63
		1<<32 - 1, 1 << 32, 1 << 61, 1<<62 - 1, 1 << 62, 1317624576693539401, // 2^63 - 1 is 7 times the last
		math.MaxInt - 1, math.MaxInt,
	}
}

// P12.1: a count without pairs, and counts that share nothing.
func TestNew(t *testing.T) {
	if New() == nil {
		t.Fatal("nil")
	}
	hold(t, New(), nil)
	one, other := New(), New()
	if e := one.Add(p('a', 'b'), 1, 1); e != api.OK {
		t.Fatal(e)
	}
	hold(t, one, of(at('a', 'b', 1)))
	hold(t, other, nil)
	hold(t, New(), nil)
}

// P12.1: the chapter's example.
func TestExample(t *testing.T) {
	c := New()
	if e := c.Add(p('a', 'b'), 2, 3); e != api.OK || c.Get(p('a', 'b')) != 6 {
		t.Error(e, c.Get(p('a', 'b')))
	}
	hold(t, c, of(at('a', 'b', 6)))
	if e := c.Add(p('a', 'b'), -2, 3); e != api.OK || c.Get(p('a', 'b')) != 0 {
		t.Error(e, c.Get(p('a', 'b')))
	}
	hold(t, c, nil)
}

// P12.1: one Add behind the other, with what is there behind each.
func TestAdd(t *testing.T) {
	c := New()
	for i, x := range []struct {
		p         api.Pair
		by, times int
		e         api.Errno
		want      model
	}{
		// Of a pair that isn't there nothing can be taken away, and 0 more of it isn't there.
		{p(1, 2), -1, 1, api.ErrOverflow, nil},
		{p(1, 2), 0, 0, api.OK, nil},
		{p(1, 2), 0, 5, api.OK, nil},
		{p(1, 2), 5, 0, api.OK, nil},
		{p(1, 2), -5, 0, api.OK, nil},
		{p(1, 2), 0, math.MaxInt, api.OK, nil},
		{p(1, 2), math.MaxInt, 0, api.OK, nil},
		{p(1, 2), -math.MaxInt, 0, api.OK, nil},
		{p(1, 2), math.MinInt, 0, api.ErrOverflow, nil},
		{p(1, 2), math.MinInt, 1, api.ErrOverflow, nil},
		// ErrArg is looked for ahead of ErrOverflow.
		{p(1, 2), 1, -1, api.ErrArg, nil},
		{p(1, 2), -1, -1, api.ErrArg, nil},
		{p(1, 2), 0, -1, api.ErrArg, nil},
		{p(1, 2), math.MinInt, -1, api.ErrArg, nil},
		{p(1, 2), math.MaxInt, math.MinInt, api.ErrArg, nil},
		{p(1, 2), math.MinInt, math.MinInt, api.ErrArg, nil},
		// More and less.
		{p(1, 2), 2, 3, api.OK, of(at(1, 2, 6))},
		{p(1, 2), 1, 1, api.OK, of(at(1, 2, 7))},
		{p(2, 1), 4, 5, api.OK, of(at(1, 2, 7), at(2, 1, 20))},
		{p(1, 2), -2, 2, api.OK, of(at(1, 2, 3), at(2, 1, 20))},
		{p(1, 2), -4, 1, api.ErrOverflow, of(at(1, 2, 3), at(2, 1, 20))},
		{p(1, 2), -1, 4, api.ErrOverflow, of(at(1, 2, 3), at(2, 1, 20))},
		{p(1, 2), -math.MaxInt, 1, api.ErrOverflow, of(at(1, 2, 3), at(2, 1, 20))},
		{p(1, 2), math.MinInt, 0, api.ErrOverflow, of(at(1, 2, 3), at(2, 1, 20))},
		{p(1, 2), -1, -3, api.ErrArg, of(at(1, 2, 3), at(2, 1, 20))},
		{p(1, 2), 0, 9, api.OK, of(at(1, 2, 3), at(2, 1, 20))},
		{p(1, 2), 9, 0, api.OK, of(at(1, 2, 3), at(2, 1, 20))},
		// Products that would go round to 0, to what is within, and to what would fit.
		{p(1, 2), 1 << 32, 1 << 32, api.ErrOverflow, of(at(1, 2, 3), at(2, 1, 20))},
		{p(1, 2), 1<<32 + 1, 1 << 32, api.ErrOverflow, of(at(1, 2, 3), at(2, 1, 20))},
		{p(1, 2), -1 << 32, 1 << 32, api.ErrOverflow, of(at(1, 2, 3), at(2, 1, 20))},
		{p(1, 2), -1 << 62, 4, api.ErrOverflow, of(at(1, 2, 3), at(2, 1, 20))},
		{p(1, 2), -math.MaxInt, 2, api.ErrOverflow, of(at(1, 2, 3), at(2, 1, 20))},
		// Up to MaxCount, by each pair for itself.
		{p(1, 2), math.MaxInt - 2, 1, api.ErrOverflow, of(at(1, 2, 3), at(2, 1, 20))},
		{p(1, 2), 1, math.MaxInt - 2, api.ErrOverflow, of(at(1, 2, 3), at(2, 1, 20))},
		{p(1, 2), 1, math.MaxInt - 3, api.OK, of(at(1, 2, math.MaxInt), at(2, 1, 20))},
		{p(1, 2), 1, 1, api.ErrOverflow, of(at(1, 2, math.MaxInt), at(2, 1, 20))},
		{p(2, 1), math.MaxInt - 20, 1, api.OK, of(at(1, 2, math.MaxInt), at(2, 1, math.MaxInt))},
		{p(1, 1), math.MaxInt, 1, api.OK, of(at(1, 1, math.MaxInt), at(1, 2, math.MaxInt), at(2, 1, math.MaxInt))},
		// Down to 0, at once and in parts; what is 0 isn't there, and may come again.
		{p(1, 2), -math.MaxInt, 1, api.OK, of(at(1, 1, math.MaxInt), at(2, 1, math.MaxInt))},
		{p(1, 1), -1, math.MaxInt - 1, api.OK, of(at(1, 1, 1), at(2, 1, math.MaxInt))},
		{p(1, 1), -1, 1, api.OK, of(at(2, 1, math.MaxInt))},
		{p(1, 1), -1, 1, api.ErrOverflow, of(at(2, 1, math.MaxInt))},
		{p(2, 1), -1317624576693539401, 7, api.OK, nil},
		{p(2, 1), 1, 1, api.OK, of(at(2, 1, 1))},
	} {
		if e := c.Add(x.p, x.by, x.times); e != x.e {
			t.Errorf("%d: Add of %v, %d, %d: %d; want %d", i, x.p, x.by, x.times, e, x.e)
		}
		hold(t, c, x.want)
	}
}

// P12.1: every edge as what is there, with all edges added, against numbers that have no end; beside it another pair.
func TestEdges(t *testing.T) {
	for _, count := range numbers() {
		if count < 0 {
			continue
		}
		for _, more := range numbers() {
			for _, times := range numbers() {
				c, m := New(), model{}
				for _, x := range []struct{ by, times int }{{count, 1}, {more, times}, {-1, times}, {more, 1}} {
					e, want := c.Add(p('a', 'b'), x.by, x.times), m.add(p('a', 'b'), x.by, x.times)
					if e != want {
						t.Errorf("%d, then %d, %d: %d; want %d", count, x.by, x.times, e, want)
					}
					hold(t, c, m)
				}
				l, e := filled(t, of(at(1, 1, 5))).Apply([]seq.Change{by(1, 1, more)}, times)
				five := of(at(1, 1, 5))
				if want, wantE := five.apply([]seq.Change{by(1, 1, more)}, times); e != wantE || !slices.Equal(l, want) {
					t.Errorf("Apply of %d, %d: %v, %d; want %v, %d", more, times, l, e, want, wantE)
				}
			}
		}
	}
}

// P12.1: pairs rise by their numbers, those below 0 first, the left ones ahead of the right ones.
func TestOrder(t *testing.T) {
	symbols := []int{math.MinInt, -256, -1, 0, 9, 10, 97, 255, 256, 1 << 31, 1 << 32, math.MaxInt}
	var want model
	for i, a := range symbols {
		for j, b := range symbols {
			want = append(want, at(a, b, 1+i*len(symbols)+j))
		}
	}
	// The number of pairs is 144: these steps come by each of them once.
	for _, step := range []int{1, 5, 7, len(want) - 1} {
		c := New()
		for i := range want {
			x := want[i*step%len(want)]
			if e := c.Add(x.pair, 1, x.n); e != api.OK {
				t.Errorf("Add of %v: %d", x, e)
			}
		}
		hold(t, c, want)
		var l []seq.Change
		for i := range want {
			l = append(l, seq.Change{Pair: want[i*step%len(want)].pair, By: 1})
		}
		changed, e := c.Apply(l, 2)
		if e != api.OK || !slices.Equal(changed, want.pairs()) {
			t.Errorf("%v, %d", changed, e)
		}
	}
}

// P12.1, P12.2: of a nil count.
func TestNil(t *testing.T) {
	var c *Counts
	for range 2 {
		for _, n := range numbers() {
			for _, times := range numbers() {
				if e := c.Add(p('a', 'b'), n, times); e != api.ErrArg {
					t.Error(n, times, e)
				}
				if l, e := c.Apply([]seq.Change{by('a', 'b', n)}, times); e != api.ErrArg || len(l) != 0 {
					t.Error(n, times, l, e)
				}
			}
		}
		for _, l := range [][]seq.Change{nil, {}} {
			if l, e := c.Apply(l, 1); e != api.ErrArg || len(l) != 0 {
				t.Error(l, e)
			}
		}
		hold(t, c, nil)
	}
}

// P12.1: a zero count has no pairs, and takes some.
func TestZero(t *testing.T) {
	var c Counts
	hold(t, &c, nil)
	for _, x := range []struct {
		by, times int
		e         api.Errno
	}{{0, 1, api.OK}, {1, 0, api.OK}, {-1, 1, api.ErrOverflow}, {1, -1, api.ErrArg}} {
		if e := c.Add(p('a', 'b'), x.by, x.times); e != x.e {
			t.Errorf("Add of %d, %d: %d; want %d", x.by, x.times, e, x.e)
		}
		hold(t, &c, nil)
	}
	holdApply(t, &c, nil, 1, nil, api.OK, nil)
	if e := c.Add(p('a', 'b'), 2, 1); e != api.OK {
		t.Error(e)
	}
	hold(t, &c, of(at('a', 'b', 2)))
	other := &Counts{}
	holdApply(t, other, []seq.Change{by('b', 'a', 2), by('a', 'b', 1)}, 3, []api.Pair{p('a', 'b'), p('b', 'a')}, api.OK, of(at('a', 'b', 3), at('b', 'a', 6)))
	hold(t, &c, of(at('a', 'b', 2)))
}

// P12.2: by examples, each on the same count.
func TestApply(t *testing.T) {
	first := of(at(1, 2, 10), at(2, 1, math.MaxInt))
	for _, x := range []struct {
		l       []seq.Change
		times   int
		changed []api.Pair
		e       api.Errno
		want    model
	}{
		// Nothing to add: no times is wrong then.
		{nil, 1, nil, api.OK, first},
		{nil, -1, nil, api.OK, first},
		{[]seq.Change{}, math.MinInt, nil, api.OK, first},
		{[]seq.Change{by(1, 2, 3)}, 2, []api.Pair{p(1, 2)}, api.OK, of(at(1, 2, 16), at(2, 1, math.MaxInt))},
		{[]seq.Change{by(1, 2, -3)}, 2, []api.Pair{p(1, 2)}, api.OK, of(at(1, 2, 4), at(2, 1, math.MaxInt))},
		// A pair that goes and one that comes are among those that changed; the list's order plays no part in theirs.
		{[]seq.Change{by(7, 7, 1), by(1, 2, -5), by(0, 9, 2)}, 2, []api.Pair{p(0, 9), p(1, 2), p(7, 7)}, api.OK, of(at(0, 9, 4), at(2, 1, math.MaxInt), at(7, 7, 2))},
		// By 0, and 0 times: no change.
		{[]seq.Change{by(1, 2, 0), by(5, 5, 0)}, 3, nil, api.OK, first},
		{[]seq.Change{by(1, 2, 4), by(5, 5, 4), by(2, 1, -4)}, 0, nil, api.OK, first},
		// A pair more than once is told once; what comes to what it was isn't told.
		{[]seq.Change{by(1, 2, 1), by(1, 2, 1), by(1, 2, 1)}, 1, []api.Pair{p(1, 2)}, api.OK, of(at(1, 2, 13), at(2, 1, math.MaxInt))},
		{[]seq.Change{by(1, 2, 1), by(1, 2, -1)}, 4, nil, api.OK, first},
		{[]seq.Change{by(1, 2, -10), by(1, 2, 10)}, 1, nil, api.OK, first},
		{[]seq.Change{by(1, 2, 2), by(1, 2, -1), by(1, 2, -1), by(1, 2, 1)}, 1, []api.Pair{p(1, 2)}, api.OK, of(at(1, 2, 11), at(2, 1, math.MaxInt))},
		{[]seq.Change{by(5, 5, 1), by(5, 5, -1), by(2, 1, -1), by(2, 1, 1)}, 3, nil, api.OK, first},
		{[]seq.Change{by(5, 5, 1), by(5, 5, -1), by(5, 5, 2)}, 3, []api.Pair{p(5, 5)}, api.OK, of(at(1, 2, 10), at(2, 1, math.MaxInt), at(5, 5, 6))},
		// One by one: what would fit all together doesn't, if one on its way can't be added.
		{[]seq.Change{by(2, 1, 1), by(2, 1, -1)}, 1, nil, api.ErrOverflow, first},
		{[]seq.Change{by(5, 5, -1), by(5, 5, 1)}, 1, nil, api.ErrOverflow, first},
		{[]seq.Change{by(2, 1, -1), by(2, 1, 1)}, 1, nil, api.OK, first},
		// The first one that can't be added; those ahead of it are added, those behind it aren't.
		{[]seq.Change{by(7, 7, 1), by(1, 2, -11), by(8, 8, 1)}, 1, nil, api.ErrOverflow, of(at(1, 2, 10), at(2, 1, math.MaxInt), at(7, 7, 1))},
		{[]seq.Change{by(1, 2, -5), by(3, 3, 1), by(2, 1, 1), by(4, 4, 1)}, 2, nil, api.ErrOverflow, of(at(2, 1, math.MaxInt), at(3, 3, 2))},
		{[]seq.Change{by(3, 3, math.MinInt), by(4, 4, 1)}, 0, nil, api.ErrOverflow, first},
		{[]seq.Change{by(3, 3, 1), by(4, 4, math.MaxInt)}, 2, nil, api.ErrOverflow, of(at(1, 2, 10), at(2, 1, math.MaxInt), at(3, 3, 2))},
		{[]seq.Change{by(1, 2, 1)}, -1, nil, api.ErrArg, first},
		{[]seq.Change{by(1, 2, 0)}, -1, nil, api.ErrArg, first},
		{[]seq.Change{by(1, 2, math.MinInt), by(1, 2, 1)}, math.MinInt, nil, api.ErrArg, first},
	} {
		holdApply(t, filled(t, first), x.l, x.times, x.changed, x.e, x.want)
	}
}

// P12.1, P12.2: every short list of changes, wrong ones among them, with some times, against the model.
func TestShortLists(t *testing.T) {
	changes := []seq.Change{by(1, 2, 1), by(1, 2, -1), by(1, 2, 0), by(2, 1, -2), by(2, 1, 2), by(0, 5, math.MaxInt), by(0, 5, -math.MaxInt), by(1, 2, math.MinInt)}
	var grow func(list []seq.Change)
	grow = func(list []seq.Change) {
		for _, times := range []int{-1, 0, 1, 2} {
			m := of(at(1, 2, 1), at(2, 1, 3))
			c := filled(t, m)
			wantL, wantE := m.apply(list, times)
			holdApply(t, c, list, times, wantL, wantE, m)
			// And once more, on what came of it.
			wantL, wantE = m.apply(list, 1)
			holdApply(t, c, list, 1, wantL, wantE, m)
		}
		if len(list) < 4 {
			for _, x := range changes {
				grow(append(list[:len(list):len(list)], x))
			}
		}
	}
	grow(nil)
}

// P12.2: what sequences tell of their merges keeps the counts of words that are there more than once right.
func TestMergesOfWords(t *testing.T) {
	words := []string{"low", "lower", "newest", "abracadabra", strings.Repeat("ab", 9), strings.Repeat("a", 17), "\x00\xff\x00\xff\xff"}
	var l []*seq.Seq
	for _, word := range words {
		l = append(l, seq.New(word))
	}
	// anew counts all pairs of all words, the word at the place i as often as times tells.
	times := func(i int) int { return 3*i + 1 }
	anew := func() model {
		m := model{}
		for i, s := range l {
			for _, x := range s.Pairs() {
				m.add(x.Pair, x.By, times(i))
			}
		}
		return m
	}
	c := New()
	for i, s := range l {
		if _, e := c.Apply(s.Pairs(), times(i)); e != api.OK {
			t.Fatal(e)
		}
	}
	hold(t, c, anew())
	// A count that went wrong may never come to its end.
	for symbol := api.Bytes; c.Len() > 0 && !t.Failed(); symbol++ {
		all := c.All()
		q := all[symbol*7%len(all)]
		for i, s := range l {
			was := anew()
			_, changes := s.Merge(q, symbol)
			var want []api.Pair
			for _, x := range changes {
				want = append(want, x.Pair)
			}
			holdApply(t, c, changes, times(i), want, api.OK, anew())
			// The changes turned round lead back.
			for j := range changes {
				changes[j].By = -changes[j].By
			}
			holdApply(t, c, changes, times(i), want, api.OK, was)
			for j := range changes {
				changes[j].By = -changes[j].By
			}
			holdApply(t, c, changes, times(i), want, api.OK, anew())
		}
	}
}

// P12.1, P12.2: many pairs, that come and go.
func TestMany(t *testing.T) {
	const many = 1 << 12
	c := New()
	var l []seq.Change
	var want []api.Pair
	for i := range many {
		// 1021 is odd: it comes by each number below many once.
		n := i * 1021 % many
		l = append(l, by(n/64, n%64, n+1))
		want = append(want, p(i/64, i%64))
	}
	for range 2 {
		changed, e := c.Apply(l, 3)
		if e != api.OK || c.Len() != many || !slices.Equal(changed, want) || !slices.Equal(c.All(), want) {
			t.Fatal(e, c.Len(), len(changed))
		}
		for i, q := range want {
			if n := c.Get(q); n != 3*(i+1) {
				t.Fatal(q, n)
			}
		}
		for i, q := range want {
			if e := c.Add(q, -3, i+1); e != api.OK || c.Len() != many-i-1 {
				t.Fatal(q, e, c.Len())
			}
		}
		hold(t, c, nil)
	}
}

// R4: what is answered may be written over, and stays when pairs are added.
func TestAnswersMemory(t *testing.T) {
	want := of(at(1, 2, 1), at(3, 4, 1))
	c := filled(t, want)
	first, second := c.All(), c.All()
	first[0], first[1] = p(9, 9), p(8, 8)
	_ = append(first[:0], p(7, 7), p(7, 7), p(7, 7))
	if !slices.Equal(second, want.pairs()) {
		t.Errorf("the second is %v now", second)
	}
	hold(t, c, want)
	changed, e := c.Apply([]seq.Change{by(2, 2, 1), by(1, 2, -1)}, 1)
	if e != api.OK || !slices.Equal(changed, []api.Pair{p(1, 2), p(2, 2)}) || !slices.Equal(second, want.pairs()) {
		t.Errorf("%v, %d; the second is %v now", changed, e, second)
	}
	clear(changed)
	hold(t, c, of(at(2, 2, 1), at(3, 4, 1)))
}

// R4: a list that is handed in stays as it is, isn't kept, and what lies behind its length isn't read.
func TestArgumentMemory(t *testing.T) {
	memory := []seq.Change{by(3, 4, 2), by(1, 2, 1), by(3, 4, -1), by(1, 1, math.MinInt), by(9, 9, 1)}
	ahead := slices.Clone(memory)
	c := New()
	holdApply(t, c, memory[:3], 2, []api.Pair{p(1, 2), p(3, 4)}, api.OK, of(at(1, 2, 2), at(3, 4, 2)))
	holdApply(t, c, memory[:0], -2, nil, api.OK, of(at(1, 2, 2), at(3, 4, 2)))
	holdApply(t, c, memory[2:], 2, nil, api.ErrOverflow, of(at(1, 2, 2)))
	if !slices.Equal(memory, ahead) {
		t.Errorf("now %v", memory)
	}
	clear(memory)
	hold(t, c, of(at(1, 2, 2)))
}

// R6: the same again, on the same state.
func TestSameAgain(t *testing.T) {
	changes := seq.New("the quick brown fox jumps over the lazy dog, and the cat").Pairs()
	c := New()
	first, e := c.Apply(changes, 5)
	if e != api.OK || len(first) != len(changes) {
		t.Fatal(first, e)
	}
	all := c.All()
	for range 50 {
		again := New()
		if l, e := again.Apply(changes, 5); e != api.OK || !slices.Equal(l, first) {
			t.Fatalf("%v, %d; ahead %v", l, e, first)
		}
		if l := again.All(); !slices.Equal(l, all) || !slices.Equal(c.All(), all) {
			t.Fatalf("%v; ahead %v", l, all)
		}
		if e := again.Add(changes[0].Pair, -1, math.MaxInt); e != api.ErrOverflow || !slices.Equal(again.All(), all) {
			t.Fatal(e)
		}
	}
}
