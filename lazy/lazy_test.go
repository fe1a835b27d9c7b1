package lazy

import (
	"maps"
	"math"
	"slices"
	"strings"
	"testing"

	"gluepot/api"
	"gluepot/pair"
	"gluepot/sym"
)

func p(a, b int) api.Pair { return api.Pair{A: a, B: b} }

func item(q api.Pair, count int) pair.Item { return pair.Item{Pair: q, Count: count} }

// model has the entries as a plain list, of which each is asked whether any other one is better.
type model struct {
	table   *sym.Table
	entries []pair.Item
	known   map[api.Pair]int
	stats   api.Stats
}

// made is a queue over a table, and its model.
func made(t *testing.T, table *sym.Table) (*Queue, *model) {
	t.Helper()
	q, m := New(table), &model{table: table, known: map[api.Pair]int{}}
	if q == nil {
		t.Fatal("New: nil")
	}
	hold(t, q, m)
	return q, m
}

func (m *model) put(x api.Pair, count int) {
	if count < 1 {
		delete(m.known, x)
		return
	}
	m.known[x] = count
	m.entries = append(m.entries, item(x, count))
	m.stats.Pushes++
	m.stats.Peak = max(m.stats.Peak, len(m.entries))
	if len(m.entries) > 16 && len(m.entries) > 2*len(m.known) {
		m.entries = nil
		for y, n := range m.known {
			m.entries = append(m.entries, item(y, n))
		}
		m.stats.Rebuilds++
	}
}

// text is what a symbol stands for, and the empty text of one that isn't there.
func (m *model) text(id int) string {
	s, _ := m.table.Text(id)
	return s
}

// better is the document's words on counted pairs.
func (m *model) better(a, b pair.Item) bool {
	if a.Count != b.Count {
		return a.Count > b.Count
	}
	if left := strings.Compare(m.text(a.Pair.A), m.text(b.Pair.A)); left != 0 {
		return left < 0
	}
	return m.text(a.Pair.B) < m.text(b.Pair.B)
}

// take takes out an entry of this pair that is one of the best of all.
func (m *model) take(t *testing.T, x api.Pair) pair.Item {
	t.Helper()
	for i, a := range m.entries {
		if a.Pair == x && !slices.ContainsFunc(m.entries, func(b pair.Item) bool { return m.better(b, a) }) {
			m.entries = slices.Delete(m.entries, i, i+1)
			m.stats.Pops++
			return a
		}
	}
	t.Fatalf("live asked of %v; the entries are %v", x, m.entries)
	return pair.Item{}
}

// hold asks the queue for all that it tells without being changed.
func hold(t *testing.T, q *Queue, m *model) {
	t.Helper()
	if q.Len() != len(m.entries) || q.Known() != len(m.known) || q.Stats() != m.stats {
		t.Fatalf("Len %d, Known %d, Stats %+v; want %d, %d, %+v", q.Len(), q.Known(), q.Stats(), len(m.entries), len(m.known), m.stats)
	}
}

func holdPut(t *testing.T, q *Queue, m *model, x api.Pair, count int) {
	t.Helper()
	q.Put(x, count)
	m.put(x, count)
	hold(t, q, m)
}

// holdPop pops; each time that live is asked, an entry is taken from the model, too, and nothing may be asked behind the one that is live.
func holdPop(t *testing.T, q *Queue, m *model, live func(api.Pair) int) {
	t.Helper()
	var want pair.Item
	found := false
	got, ok := q.Pop(func(x api.Pair) int {
		if found {
			t.Fatalf("live asked of %v; %v was live", x, want)
		}
		n := live(x)
		if a := m.take(t, x); a.Count == n {
			want, found = a, true
			delete(m.known, x)
		}
		return n
	})
	if got != want || ok != found {
		t.Fatalf("Pop: %v, %t; want %v, %t", got, ok, want, found)
	}
	if !ok && len(m.entries) > 0 {
		t.Fatalf("Pop: false; left %v", m.entries)
	}
	hold(t, q, m)
}

// alive tells of each pair what a map tells of it.
func alive(counts map[api.Pair]int) func(api.Pair) int {
	return func(x api.Pair) int { return counts[x] }
}

// none tells of each pair that it isn't live.
func none(api.Pair) int { return 0 }

// drained pops until none is live any more, and tells what was popped, in its order.
func drained(q *Queue, live func(api.Pair) int) []pair.Item {
	var l []pair.Item
	for {
		x, ok := q.Pop(live)
		if !ok {
			return l
		}
		l = append(l, x)
	}
}

// taken lets all entries be taken, and tells of which pairs live was asked, in their order.
func taken(q *Queue) []api.Pair {
	var l []api.Pair
	q.Pop(func(x api.Pair) int {
		l = append(l, x)
		return 0
	})
	return l
}

// pairs are many pairs that differ, of bytes.
func pairs(many int) []api.Pair {
	l := make([]api.Pair, many)
	for i := range l {
		l[i] = p(i/256, i%256)
	}
	return l
}

// P15.1 to P15.3: the chapter's example.
func TestExample(t *testing.T) {
	q := New(sym.New())
	x := p('a', 'b')
	q.Put(x, 3)
	q.Put(x, 2)
	if q.Len() != 2 || q.Known() != 1 {
		t.Error(q.Len(), q.Known())
	}
	if y, ok := q.Pop(func(api.Pair) int { return 2 }); y != item(x, 2) || !ok {
		t.Error(y, ok)
	}
	if s := q.Stats(); s != (api.Stats{Pushes: 2, Pops: 2, Peak: 2}) || q.Len() != 0 || q.Known() != 0 {
		t.Error(s, q.Len(), q.Known())
	}
}

// P15.1, P15.2: a new queue has no entries and knows no pair, over any table.
func TestNew(t *testing.T) {
	for _, table := range []*sym.Table{nil, {}, sym.New()} {
		q, m := made(t, table)
		holdPop(t, q, m, func(api.Pair) int { return 1 })
		holdPop(t, q, m, none)
		holdPut(t, q, m, p('a', 'b'), 0)
		holdPop(t, q, m, none)
		holdPut(t, q, m, p('a', 'b'), 1)
		holdPop(t, q, m, func(api.Pair) int { return 1 })
		holdPop(t, q, m, func(api.Pair) int { return 1 })
	}
}

// P15.1: a count below 1 makes no entry; the pair is known no more, and its entries stay.
func TestPutBelowOne(t *testing.T) {
	x, other := p('a', 'b'), p('b', 'a')
	for _, count := range []int{0, -1, -2, -5, math.MinInt, math.MinInt + 1} {
		q, m := made(t, sym.New())
		holdPut(t, q, m, x, count)
		holdPut(t, q, m, x, 5)
		holdPut(t, q, m, other, 4)
		holdPut(t, q, m, x, count)
		if q.Known() != 1 || q.Len() != 2 || q.Stats() != (api.Stats{Pushes: 2, Peak: 2}) {
			t.Error(count, q.Known(), q.Len(), q.Stats())
		}
		holdPut(t, q, m, x, count)
		holdPop(t, q, m, alive(map[api.Pair]int{x: 5, other: 4}))
		holdPut(t, q, m, other, count)
		holdPop(t, q, m, alive(map[api.Pair]int{x: 5, other: 4}))
		if q.Known() != 0 || q.Len() != 0 || q.Stats() != (api.Stats{Pushes: 2, Pops: 2, Peak: 2}) {
			t.Error(count, q.Known(), q.Len(), q.Stats())
		}
	}
}

// P15.1: 1 is a count, and so is any greater one.
func TestPutCounts(t *testing.T) {
	q, m := made(t, sym.New())
	l := pairs(6)
	counts := []int{math.MaxInt, 1, 1 << 32, 2, math.MaxInt - 1, 1<<32 + 1}
	live := map[api.Pair]int{}
	for i, x := range l {
		holdPut(t, q, m, x, counts[i])
		live[x] = counts[i]
	}
	want := []pair.Item{item(l[0], math.MaxInt), item(l[4], math.MaxInt-1), item(l[5], 1<<32+1), item(l[2], 1<<32), item(l[3], 2), item(l[1], 1)}
	if got := drained(q, alive(live)); !slices.Equal(got, want) {
		t.Error(got)
	}
}

// P15.1: each Put makes an entry, of what is there already, too.
func TestPutAgain(t *testing.T) {
	q, m := made(t, sym.New())
	x := p('a', 'b')
	for i := range 16 {
		holdPut(t, q, m, x, 7)
		if q.Len() != i+1 || q.Known() != 1 {
			t.Error(i, q.Len(), q.Known())
		}
	}
	for range 16 {
		holdPop(t, q, m, func(api.Pair) int { return 7 })
	}
	holdPop(t, q, m, func(api.Pair) int { return 7 })
}

// P15.1: it is built anew with more than 16 entries that are more than twice the pairs, at once, and neither sooner nor later.
func TestBuiltAnew(t *testing.T) {
	for _, y := range []struct{ entries, known, left, rebuilds int }{
		{1, 1, 1, 0},
		{3, 1, 3, 0},
		{16, 1, 16, 0},
		{16, 7, 16, 0},
		{17, 1, 1, 1},
		{17, 2, 2, 1},
		{17, 8, 8, 1},
		{17, 9, 17, 0},
		{17, 17, 17, 0},
		{18, 9, 18, 0},
		{19, 9, 9, 1},
		{20, 10, 20, 0},
		{21, 10, 10, 1},
		{32, 16, 32, 0},
		{33, 16, 16, 1},
		{34, 17, 34, 0},
		{35, 17, 17, 1},
		{2000, 1000, 2000, 0},
		{2001, 1000, 1000, 1},
	} {
		q, m := made(t, sym.New())
		l := pairs(y.known)
		for i := range y.entries {
			holdPut(t, q, m, l[i%len(l)], i+1)
		}
		if q.Len() != y.left || q.Known() != y.known || q.Stats() != (api.Stats{Pushes: y.entries, Peak: y.entries, Rebuilds: y.rebuilds}) {
			t.Errorf("%+v: Len %d, Known %d, %+v", y, q.Len(), q.Known(), q.Stats())
		}
		for q.Len() > 0 {
			holdPop(t, q, m, alive(m.known))
		}
	}
}

// P15.1: what it is built of is what was put last, not the best of each pair, and nothing that it forgot.
func TestBuiltOfWhatIsKnown(t *testing.T) {
	q, m := made(t, sym.New())
	l := pairs(4)
	for i := range 4 {
		for _, x := range l {
			holdPut(t, q, m, x, 100-10*i+x.B)
		}
	}
	holdPut(t, q, m, l[1], 0)
	holdPut(t, q, m, l[2], 5)
	if q.Len() != 3 || q.Known() != 3 || q.Stats() != (api.Stats{Pushes: 17, Peak: 17, Rebuilds: 1}) {
		t.Fatal(q.Len(), q.Known(), q.Stats())
	}
	want := []pair.Item{item(l[3], 73), item(l[0], 70), item(l[2], 5)}
	if got := drained(q, alive(map[api.Pair]int{l[0]: 70, l[1]: 71, l[2]: 5, l[3]: 73})); !slices.Equal(got, want) {
		t.Error(got)
	}
	if q.Known() != 0 || q.Stats() != (api.Stats{Pushes: 17, Pops: 3, Peak: 17, Rebuilds: 1}) {
		t.Error(q.Known(), q.Stats())
	}
}

// P15.1: forgetting and taking leave as many entries as there are; only the next one that is put has it built anew.
func TestOnlyPutBuildsAnew(t *testing.T) {
	q, m := made(t, sym.New())
	l := pairs(40)
	for i, x := range l {
		holdPut(t, q, m, x, i+1)
	}
	for _, x := range l[:35] {
		holdPut(t, q, m, x, 0)
	}
	if q.Len() != 40 || q.Known() != 5 || q.Stats().Rebuilds != 0 {
		t.Fatal(q.Len(), q.Known(), q.Stats())
	}
	holdPop(t, q, m, alive(map[api.Pair]int{l[39]: 40}))
	if q.Len() != 39 || q.Known() != 4 || q.Stats().Rebuilds != 0 {
		t.Fatal(q.Len(), q.Known(), q.Stats())
	}
	holdPut(t, q, m, l[0], 9)
	if q.Len() != 5 || q.Known() != 5 || q.Stats() != (api.Stats{Pushes: 41, Pops: 1, Peak: 40, Rebuilds: 1}) {
		t.Fatal(q.Len(), q.Known(), q.Stats())
	}
	if got, want := taken(q), []api.Pair{l[38], l[37], l[36], l[35], l[0]}; !slices.Equal(got, want) {
		t.Error(got)
	}
}

// P15.1: an entry that was taken as stale comes back, if its pair is still known when the queue is built anew.
func TestKnownComesBack(t *testing.T) {
	q, m := made(t, sym.New())
	l := pairs(3)
	holdPut(t, q, m, l[0], 8)
	holdPut(t, q, m, l[1], 9)
	holdPop(t, q, m, none)
	if q.Len() != 0 || q.Known() != 2 {
		t.Fatal(q.Len(), q.Known())
	}
	for i := range 17 {
		holdPut(t, q, m, l[2], 30-i)
	}
	if q.Len() != 3 || q.Known() != 3 || q.Stats() != (api.Stats{Pushes: 19, Pops: 2, Peak: 17, Rebuilds: 1}) {
		t.Fatal(q.Len(), q.Known(), q.Stats())
	}
	if got, want := taken(q), []api.Pair{l[2], l[1], l[0]}; !slices.Equal(got, want) {
		t.Error(got)
	}
}

// P15.2: the better ones first, by their counts and then by their texts, the left ones ahead.
func TestPopOrder(t *testing.T) {
	table := sym.New()
	ba, _ := table.Join('b', 'a')
	aa, _ := table.Join('a', 'a')
	rising := []pair.Item{
		item(p('z', 'z'), 4),
		item(p('a', 'a'), 3), item(p('a', aa), 3), item(p('a', 'b'), 3), item(p('a', ba), 3),
		item(p(aa, 'a'), 3), item(p('b', 'a'), 3), item(p(ba, 0), 3), item(p(0xff, 0), 3), item(p(0xff, 0xff), 3),
		item(p(0, 0), 2), item(p(0, 1), 2), item(p(0, 0xff), 2), item(p(1, 0), 2),
	}
	live := map[api.Pair]int{}
	for _, x := range rising {
		live[x.Pair] = x.Count
	}
	// Each rotation, both ways round.
	for i := range rising {
		l := slices.Concat(rising[i:], rising[:i])
		for range 2 {
			q, m := made(t, table)
			for _, x := range l {
				holdPut(t, q, m, x.Pair, x.Count)
			}
			if got := drained(q, alive(live)); !slices.Equal(got, rising) {
				t.Fatal(i, got)
			}
			slices.Reverse(l)
		}
	}
}

// P15.2: only an entry whose count is just what live tells is told, be that more or less.
func TestPopLive(t *testing.T) {
	x := p('a', 'b')
	for _, tells := range []int{math.MinInt, -3, -1, 0, 1, 2, 4, 5, 1<<32 + 3, math.MaxInt} {
		q, m := made(t, sym.New())
		holdPut(t, q, m, x, 3)
		holdPop(t, q, m, func(api.Pair) int { return tells })
		if q.Len() != 0 || q.Known() != 1 || q.Stats().Pops != 1 {
			t.Error(tells, q.Len(), q.Known(), q.Stats())
		}
	}
	// A stale one that is less than what is live lies behind it, and one that is greater is taken first.
	q, m := made(t, sym.New())
	for _, n := range []int{2, 9, 5, 1, 7} {
		holdPut(t, q, m, x, n)
	}
	holdPop(t, q, m, func(api.Pair) int { return 5 })
	if q.Len() != 2 || q.Known() != 0 || q.Stats().Pops != 3 {
		t.Error(q.Len(), q.Known(), q.Stats())
	}
	holdPop(t, q, m, func(api.Pair) int { return 1 })
	if q.Len() != 0 || q.Stats().Pops != 5 {
		t.Error(q.Len(), q.Stats())
	}
}

// P15.2: the pair that is told is known no more, whatever its count was put last; one whose stale entry was taken still is.
func TestPopForgets(t *testing.T) {
	q, m := made(t, sym.New())
	x, other := p('a', 'b'), p('c', 'd')
	holdPut(t, q, m, x, 5)
	holdPut(t, q, m, x, 2)
	holdPut(t, q, m, other, 9)
	holdPop(t, q, m, alive(map[api.Pair]int{x: 5, other: 8}))
	if q.Known() != 1 || q.Len() != 1 {
		t.Error(q.Known(), q.Len())
	}
	holdPop(t, q, m, alive(map[api.Pair]int{x: 2}))
	if q.Known() != 1 || q.Len() != 0 {
		t.Error(q.Known(), q.Len())
	}
	// Put again, it is known again.
	holdPut(t, q, m, x, 1)
	if q.Known() != 2 || q.Len() != 1 {
		t.Error(q.Known(), q.Len())
	}
}

// P15.2: with none that is live all entries are taken, and no pair is forgotten; with a nil live nothing is taken.
func TestPopNone(t *testing.T) {
	q, m := made(t, sym.New())
	for i, x := range pairs(10) {
		holdPut(t, q, m, x, i+1)
	}
	for range 2 {
		if x, ok := q.Pop(nil); x != (pair.Item{}) || ok {
			t.Error(x, ok)
		}
		hold(t, q, m)
	}
	for range 2 {
		holdPop(t, q, m, none)
		if q.Len() != 0 || q.Known() != 10 || q.Stats() != (api.Stats{Pushes: 10, Pops: 10, Peak: 10}) {
			t.Error(q.Len(), q.Known(), q.Stats())
		}
	}
	if x, ok := q.Pop(nil); x != (pair.Item{}) || ok {
		t.Error(x, ok)
	}
}

// P15.3: the most entries is told ahead of being built anew; what falls away then wasn't taken, and what comes wasn't put.
func TestStats(t *testing.T) {
	q := New(sym.New())
	x := p('a', 'b')
	for i, want := range []api.Stats{
		{Pushes: 16, Peak: 16},
		{Pushes: 32, Peak: 17, Rebuilds: 1},
		{Pushes: 48, Peak: 17, Rebuilds: 2},
		{Pushes: 64, Peak: 17, Rebuilds: 3},
	} {
		for n := range 16 {
			q.Put(x, n+1)
		}
		if s := q.Stats(); s != want || q.Len() != 16 {
			t.Errorf("%d: %+v, Len %d; want %+v", i, s, q.Len(), want)
		}
	}
	q.Pop(none)
	if s := q.Stats(); s != (api.Stats{Pushes: 64, Pops: 16, Peak: 17, Rebuilds: 3}) {
		t.Errorf("%+v", s)
	}
	// The most there ever were stays until there are more.
	for i, y := range pairs(20) {
		q.Put(y, 1)
		if s := q.Stats(); s != (api.Stats{Pushes: 65 + i, Pops: 16, Peak: max(17, i+1), Rebuilds: 3}) {
			t.Errorf("%d: %+v", i, s)
		}
	}
	// The stats that were told are whoever's that asked.
	s := q.Stats()
	s.Pushes, s.Peak = 0, -1
	if q.Stats() != (api.Stats{Pushes: 84, Pops: 16, Peak: 20, Rebuilds: 3}) {
		t.Errorf("%+v", q.Stats())
	}
}

// P15.3: of a nil queue nothing is done, and no function is asked.
func TestNil(t *testing.T) {
	var q *Queue
	for range 2 {
		for _, count := range []int{math.MinInt, -1, 0, 1, math.MaxInt} {
			q.Put(p('a', 'b'), count)
		}
		x, ok := q.Pop(func(api.Pair) int {
			t.Error("live was asked")
			return 1
		})
		if x != (pair.Item{}) || ok {
			t.Error(x, ok)
		}
		if x, ok := q.Pop(nil); x != (pair.Item{}) || ok {
			t.Error(x, ok)
		}
		if q.Len() != 0 || q.Known() != 0 || q.Stats() != (api.Stats{}) {
			t.Error(q.Len(), q.Known(), q.Stats())
		}
	}
}

// P1: one that no New made isn't promised anything; its calls end all the same.
func TestNotMade(t *testing.T) {
	q := &Queue{}
	for range 20 {
		q.Put(p('a', 'b'), 1)
		q.Put(p('a', 'b'), 0)
	}
	if x, ok := q.Pop(func(api.Pair) int { return 1 }); x != (pair.Item{}) || ok || q.Len() != 0 || q.Known() != 0 {
		t.Error(x, ok, q.Len(), q.Known())
	}
}

// P15.1 to P15.3: every short row of calls, with entries that are alike and symbols that aren't there.
func TestShortRows(t *testing.T) {
	x, y, z, far := p('a', 'b'), p('b', 'a'), p(300, 'a'), p(-1, 'a')
	live := alive(map[api.Pair]int{x: 2, y: 1, z: 1, far: 2})
	calls := []func(q *Queue, m *model){
		func(q *Queue, m *model) { holdPut(t, q, m, x, 2) },
		func(q *Queue, m *model) { holdPut(t, q, m, x, 3) },
		func(q *Queue, m *model) { holdPut(t, q, m, x, 0) },
		func(q *Queue, m *model) { holdPut(t, q, m, y, 1) },
		func(q *Queue, m *model) { holdPut(t, q, m, z, 1) },
		func(q *Queue, m *model) { holdPut(t, q, m, far, 2) },
		func(q *Queue, m *model) { holdPop(t, q, m, live) },
	}
	table := sym.New()
	const long = 5
	for _, ahead := range []int{0, 14} {
		rows := 1
		for range long {
			rows *= len(calls)
		}
		for row := range rows {
			q, m := made(t, table)
			for i := range ahead {
				holdPut(t, q, m, p('c', 'c'), i%3+1)
			}
			for range long {
				calls[row%len(calls)](q, m)
				row /= len(calls)
			}
			for q.Len() > 0 {
				holdPop(t, q, m, live)
			}
		}
	}
}

// P15.1 to P15.3: long rows of calls by a rule of numbers, of few and of many pairs, with symbols that come meanwhile.
func TestLongRows(t *testing.T) {
	for seed := range 40 {
		table := sym.New()
		q, m := made(t, table)
		live := map[api.Pair]int{}
		state := uint64(seed)
		next := func(below int) int {
			state = state*6364136223846793005 + 1442695040888963407
			return int(state>>33) % below
		}
		for range 600 {
			x := p(next(3+seed%7)+254, next(2+seed%5)+254)
			switch next(12) {
			case 0:
				live[x] = next(5)
				holdPut(t, q, m, x, 0)
			case 1:
				holdPop(t, q, m, alive(live))
			case 2:
				holdPop(t, q, m, alive(m.known))
			case 3:
				if seed%2 == 0 {
					table.Join(next(table.Len()), next(table.Len()))
				}
			default:
				live[x] = next(6) + seed%3
				holdPut(t, q, m, x, live[x])
			}
		}
		if q.Stats().Rebuilds == 0 {
			t.Error(seed, "nothing was built anew: this tries too little")
		}
		for q.Len() > 0 {
			holdPop(t, q, m, alive(live))
		}
	}
}

// P15.2: a symbol that comes behind a Put counts from then on.
func TestLaterSymbols(t *testing.T) {
	first, second, last := p(256, 'a'), p('a', 256), p('b', 'b')
	for _, y := range []struct {
		joins []api.Pair
		want  []api.Pair
	}{
		// The empty text is ahead of all.
		{nil, []api.Pair{first, second, last}},
		{[]api.Pair{p('b', 'a')}, []api.Pair{second, last, first}},
		{[]api.Pair{p('a', 'a')}, []api.Pair{second, first, last}},
		{[]api.Pair{p('c', 'c')}, []api.Pair{second, last, first}},
	} {
		for _, l := range [][]api.Pair{{first, second, last}, {last, second, first}, {second, last, first}} {
			table := sym.New()
			q, m := made(t, table)
			for _, x := range l {
				holdPut(t, q, m, x, 3)
			}
			for _, j := range y.joins {
				table.Join(j.A, j.B)
			}
			hold(t, q, m)
			if got := taken(q); !slices.Equal(got, y.want) {
				t.Errorf("%v: %v; want %v", l, got, y.want)
			}
			if s := q.Stats(); s != (api.Stats{Pushes: 3, Pops: 3, Peak: 3}) {
				t.Errorf("%+v", s)
			}
		}
	}
}

// P15.2: symbols that come one by one, between Pops, some on both sides of a pair, and while live is asked.
func TestSymbolsComeMeanwhile(t *testing.T) {
	table := sym.New()
	q, m := made(t, table)
	for i := range 8 {
		for j := range 8 {
			if (i+j)%3 != 0 {
				holdPut(t, q, m, p(256+i, 256+j), 4)
			}
			holdPut(t, q, m, p(256+i, 'a'+j), 4)
			holdPut(t, q, m, p('a'+i, 256+j), 4)
		}
	}
	asked := 0
	for i := 0; q.Len() > 0; i++ {
		if i%9 == 0 {
			table.Join('h'-i/9, 'a'+i%7)
		}
		holdPop(t, q, m, func(api.Pair) int {
			asked++
			return asked % 3 * 2
		})
	}
	if table.Len() < 260 {
		t.Errorf("%d symbols: this tries too little", table.Len())
	}
	// One that comes while live is asked counts for those that are taken behind it.
	table = sym.New()
	q = New(table)
	for _, x := range []api.Pair{p(256, 'a'), p(256, 'b'), p('c', 'c')} {
		q.Put(x, 1)
	}
	var got []api.Pair
	q.Pop(func(x api.Pair) int {
		got = append(got, x)
		table.Join('d', 'd')
		return 0
	})
	if want := []api.Pair{p(256, 'a'), p('c', 'c'), p(256, 'b')}; !slices.Equal(got, want) {
		t.Error(got)
	}
}

// R6: pairs that are alike, as their symbols aren't there, come in one order, however they were put, built anew, and in whatever table.
func TestAlikeInOneOrder(t *testing.T) {
	for _, table := range []*sym.Table{nil, sym.New()} {
		var l, first []api.Pair
		for i := range 30 {
			l = append(l, p(1000+i*5%6, -1-i%5))
		}
		for i := range 30 {
			q := New(table)
			// Many of a pair that is forgotten again let it be built anew.
			for n := range i {
				q.Put(p('a', 'a'), n+1)
			}
			for _, x := range slices.Concat(l[i:], l[:i]) {
				q.Put(x, 5)
			}
			for _, x := range l[:i] {
				q.Put(x, 5)
			}
			q.Put(p('a', 'a'), 0)
			var got []api.Pair
			for _, x := range drained(q, func(x api.Pair) int {
				if x == p('a', 'a') {
					return 0
				}
				return 5
			}) {
				got = append(got, x.Pair)
			}
			got = slices.Compact(got)
			if i == 0 {
				first = got
			}
			if len(got) != 30 || !slices.Equal(got, first) {
				t.Fatal(i, got, first)
			}
		}
	}
}

// R6: the same calls have the same answers, also where it is built anew of many pairs that are alike.
func TestSameAgain(t *testing.T) {
	var first []api.Pair
	for i := range 20 {
		q := New(sym.New())
		for n := range 3 {
			for j := range 50 {
				q.Put(p(500+j*17%50, 900-j), n+1)
			}
		}
		if q.Stats().Rebuilds == 0 {
			t.Fatal("nothing was built anew: this tries too little")
		}
		got := taken(q)
		if i == 0 {
			first = got
		}
		if !slices.Equal(got, first) {
			t.Fatal(got, first)
		}
	}
}

// P1: a function may do what it likes, and put into the very queue, or take from it, that asks it.
func TestLiveThatMeddles(t *testing.T) {
	for kind := range 5 {
		for times := range 60 {
			q := New(sym.New())
			for i, x := range pairs(40) {
				q.Put(x, i+1)
			}
			puts, live := 40, 0
			var meddle func(x api.Pair) int
			meddle = func(x api.Pair) int {
				live++
				if times == 0 {
					return 0
				}
				times--
				switch kind {
				case 0:
					q.Put(x, times+1)
					puts++
				case 1:
					// Enough of one pair to have it built anew.
					for n := range 20 {
						q.Put(p('z', 'z'), n+1)
						puts++
					}
				case 2:
					q.Pop(meddle)
				case 3:
					q.Put(x, 0)
				case 4:
					q.Put(x, 1<<40+times)
					puts++
					return 1<<40 + times
				}
				return 0
			}
			for q.Len() > 0 {
				q.Pop(meddle)
			}
			if s := q.Stats(); s.Pushes != puts || s.Pops != live || q.Known() < 0 {
				t.Fatal(kind, times, s, puts, live)
			}
		}
	}
}

// P15.2: what live puts of the pair that it lets be told isn't known behind it, and the entry stays.
func TestLivePutsItsPair(t *testing.T) {
	q := New(sym.New())
	x := p('a', 'b')
	q.Put(x, 3)
	y, ok := q.Pop(func(api.Pair) int {
		if q.Len() != 0 || q.Known() != 1 {
			t.Error(q.Len(), q.Known())
		}
		q.Put(x, 7)
		return 3
	})
	if y != item(x, 3) || !ok || q.Len() != 1 || q.Known() != 0 {
		t.Error(y, ok, q.Len(), q.Known())
	}
	if y, ok := q.Pop(func(api.Pair) int { return 7 }); y != item(x, 7) || !ok {
		t.Error(y, ok)
	}
}

// R4: queues over one table have nothing else in common, and the table isn't changed.
func TestApart(t *testing.T) {
	table := sym.New()
	table.Join('a', 'b')
	merges := table.Merges()
	a, m := made(t, table)
	b, n := made(t, table)
	for i, x := range pairs(30) {
		holdPut(t, a, m, x, i+1)
		hold(t, b, n)
		holdPut(t, b, n, p(256, i), 3)
		holdPut(t, b, n, p(256, i), 4)
		hold(t, a, m)
	}
	for a.Len() > 0 {
		holdPop(t, a, m, alive(map[api.Pair]int{p(0, 3): 4, p(0, 20): 21}))
		hold(t, b, n)
	}
	holdPop(t, b, n, alive(maps.Clone(n.known)))
	hold(t, a, m)
	if table.Len() != 257 || !slices.Equal(table.Merges(), merges) {
		t.Error(table.Len(), table.Merges())
	}
}

// P15.1 to P15.3: very many entries, too many to hold each against all others.
func TestManyEntries(t *testing.T) {
	const many = 1 << 16
	table := sym.New()
	q := New(table)
	l := pairs(many)
	live := map[api.Pair]int{}
	put := 0
	for round := range 4 {
		for i, x := range l {
			if round == 0 || i%(round+1) == 0 {
				live[x] = 1 + (i*7919+round*104729)%5003
				q.Put(x, live[x])
				put++
			}
		}
	}
	if q.Known() != many || q.Len() > 2*many || q.Stats().Pushes != put || q.Stats().Peak > 2*many+1 || q.Stats().Rebuilds != 1 {
		t.Fatal(q.Known(), q.Len(), q.Stats())
	}
	var want []pair.Item
	for x, n := range live {
		want = append(want, item(x, n))
	}
	want = pair.Sort(table, want)
	if got := drained(q, alive(live)); !slices.Equal(slices.Compact(got), want) {
		t.Error(len(got), len(want))
	}
	if q.Known() != 0 || q.Len() != 0 {
		t.Error(q.Known(), q.Len())
	}
}
