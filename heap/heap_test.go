package heap

import (
	"iter"
	"slices"
	"strings"
	"testing"
)

// card is an item that others may be alike to: only its rank is looked at, and its name tells it from them.
type card struct {
	rank int
	name int
}

func higher(a, b card) bool { return a.rank > b.rank }

func greater(a, b int) bool { return a > b }

func less(a, b string) bool { return a < b }

// model has the items as a plain list, and asks each of all others.
type model[T comparable] struct {
	better func(a, b T) bool
	items  []T
	pushes int
	peak   int
}

func (m *model[T]) push(x T) {
	m.items = append(m.items, x)
	m.pushes++
	m.peak = max(m.peak, len(m.items))
}

// take takes out an item that a heap told, if it is one of the best.
func (m *model[T]) take(x T) bool {
	at := slices.Index(m.items, x)
	if at < 0 || slices.ContainsFunc(m.items, func(y T) bool { return m.better(y, x) }) {
		return false
	}
	m.items = slices.Delete(m.items, at, at+1)
	return true
}

// made is a heap of these items, and its model.
func made[T comparable](t *testing.T, better func(a, b T) bool, l ...T) (*Heap[T], *model[T]) {
	t.Helper()
	h := Of(better, l...)
	m := &model[T]{better: better, items: slices.Clone(l), peak: len(l)}
	hold(t, h, m)
	return h, m
}

// hold asks the heap for all that it tells without being changed.
func hold[T comparable](t *testing.T, h *Heap[T], m *model[T]) {
	t.Helper()
	if h.Len() != len(m.items) || h.Pushes() != m.pushes || h.Peak() != m.peak {
		t.Fatalf("Len %d, Pushes %d, Peak %d; want %d, %d, %d", h.Len(), h.Pushes(), h.Peak(), len(m.items), m.pushes, m.peak)
	}
	x, ok := h.Top()
	if again, alsoOK := h.Top(); again != x || alsoOK != ok {
		t.Fatalf("Top: %v, %t; again %v, %t", x, ok, again, alsoOK)
	}
	if len(m.items) == 0 {
		var none T
		if ok || x != none {
			t.Fatalf("Top of none: %v, %t", x, ok)
		}
		return
	}
	if !ok || !slices.Contains(m.items, x) {
		t.Fatalf("Top: %v, %t; of %v", x, ok, m.items)
	}
	for _, y := range m.items {
		if m.better(y, x) {
			t.Fatalf("Top: %v; %v is better", x, y)
		}
	}
}

func holdPush[T comparable](t *testing.T, h *Heap[T], m *model[T], x T) {
	t.Helper()
	h.Push(x)
	m.push(x)
	hold(t, h, m)
}

// holdPop pops what Top told.
func holdPop[T comparable](t *testing.T, h *Heap[T], m *model[T]) {
	t.Helper()
	top, topOK := h.Top()
	x, ok := h.Pop()
	if x != top || ok != topOK {
		t.Fatalf("Pop: %v, %t; Top told %v, %t", x, ok, top, topOK)
	}
	if ok && !m.take(x) {
		t.Fatalf("Pop: %v; of %v", x, m.items)
	}
	hold(t, h, m)
}

// holdDrain drains both; what came ahead is held against what comes behind it by the model's being asked each time.
func holdDrain[T comparable](t *testing.T, h *Heap[T], m *model[T]) {
	t.Helper()
	var came []T
	for x := range h.Drain() {
		if !m.take(x) {
			t.Fatalf("Drain: %v behind %v; left %v", x, came, m.items)
		}
		if len(came) > 0 && m.better(x, came[len(came)-1]) {
			t.Fatalf("Drain: %v is better than the one ahead of it: %v", x, came)
		}
		came = append(came, x)
		hold(t, h, m)
	}
	if len(m.items) != 0 {
		t.Fatalf("Drain: %v; left %v", came, m.items)
	}
	holdPop(t, h, m)
}

// lists goes through all lists of the ranks below most, up to so many items; each item's name is its place.
func lists(most, long int) iter.Seq[[]card] {
	return func(yield func([]card) bool) {
		for l := range long + 1 {
			for number := range power(most, l) {
				list := make([]card, l)
				for i := range list {
					list[i] = card{rank: number % most, name: i}
					number /= most
				}
				if !yield(list) {
					return
				}
			}
		}
	}
}

func power(a, b int) int {
	n := 1
	for range b {
		n *= a
	}
	return n
}

// P14.1, P14.2: the chapter's example, by Of and by Push.
func TestExample(t *testing.T) {
	h := Of(greater, 3, 1, 2)
	if l := slices.Collect(h.Drain()); !slices.Equal(l, []int{3, 2, 1}) {
		t.Error(l)
	}
	h = New(greater)
	for _, x := range []int{3, 1, 2} {
		h.Push(x)
	}
	if l := slices.Collect(h.Drain()); !slices.Equal(l, []int{3, 2, 1}) {
		t.Error(l)
	}
}

// P14.1: a heap without items, by New and by Of, has no best one, neither ahead nor behind others.
func TestNoItems(t *testing.T) {
	for _, h := range []*Heap[int]{New(greater), Of(greater), Of(greater, []int(nil)...), Of(greater, []int{}...)} {
		if h == nil {
			t.Fatal("nil")
		}
		m := &model[int]{better: greater}
		hold(t, h, m)
		for range 3 {
			holdPop(t, h, m)
		}
		holdDrain(t, h, m)
		holdPush(t, h, m, -7)
		holdPop(t, h, m)
		holdPop(t, h, m)
	}
}

// P14.1: an item may be a zero one: it is there with true.
func TestZeroItems(t *testing.T) {
	h := New(greater)
	h.Push(0)
	h.Push(-1)
	for i, want := range []int{0, -1} {
		if x, ok := h.Top(); x != want || !ok {
			t.Error(i, x, ok)
		}
		if x, ok := h.Pop(); x != want || !ok {
			t.Error(i, x, ok)
		}
	}
	if x, ok := h.Pop(); x != 0 || ok {
		t.Error(x, ok)
	}
	s := Of(less, "", "", "a")
	for i, want := range []string{"", "", "a"} {
		if x, ok := s.Pop(); x != want || !ok {
			t.Error(i, x, ok)
		}
	}
	if x, ok := s.Top(); x != "" || ok {
		t.Error(x, ok)
	}
}

// P14.1: Of's items don't count as pushed, but to the most that there ever were; what is popped is counted no less.
func TestCounts(t *testing.T) {
	h := Of(greater, 5, 6, 7)
	for i, y := range []struct {
		do                string
		long, pushes, top int
	}{
		{"", 3, 0, 3},
		{"pop", 2, 0, 3},
		{"push", 3, 1, 3},
		{"push", 4, 2, 4},
		{"pop", 3, 2, 4},
		{"pop", 2, 2, 4},
		{"pop", 1, 2, 4},
		{"pop", 0, 2, 4},
		{"pop", 0, 2, 4},
		{"push", 1, 3, 4},
		{"pop", 0, 3, 4},
		{"drain", 0, 3, 4},
		{"push", 1, 4, 4},
		{"push", 2, 5, 4},
		{"push", 3, 6, 4},
		{"push", 4, 7, 4},
		{"push", 5, 8, 5},
		{"drain", 0, 8, 5},
	} {
		switch y.do {
		case "push":
			h.Push(i)
		case "pop":
			h.Pop()
		case "drain":
			for range h.Drain() {
			}
		}
		if h.Len() != y.long || h.Pushes() != y.pushes || h.Peak() != y.top {
			t.Errorf("%d, %s: %d, %d, %d; want %d, %d, %d", i, y.do, h.Len(), h.Pushes(), h.Peak(), y.long, y.pushes, y.top)
		}
	}
}

// P14.1, P14.2: every short list, with items that are alike, by Of, by Push, and by some of each.
func TestShortLists(t *testing.T) {
	for l := range lists(4, 6) {
		for given := range len(l) + 1 {
			h, m := made(t, higher, l[:given]...)
			for _, x := range l[given:] {
				holdPush(t, h, m, x)
			}
			holdDrain(t, h, m)
		}
		if t.Failed() {
			t.Fatal(l)
		}
	}
}

// P14.1, P14.2: every order of eight items that all differ.
func TestOrders(t *testing.T) {
	rising := []int{0, 1, 2, 3, 4, 5, 6, 7}
	falling := []int{7, 6, 5, 4, 3, 2, 1, 0}
	var try func(l, rest []int)
	try = func(l, rest []int) {
		if len(rest) == 0 {
			pushed := New(greater)
			for _, x := range l {
				pushed.Push(x)
			}
			for i, h := range []*Heap[int]{Of(greater, l...), pushed} {
				if got := slices.Collect(h.Drain()); !slices.Equal(got, falling) {
					t.Fatal(i, l, got)
				}
			}
			return
		}
		for i, x := range rest {
			try(append(l[:len(l):len(l)], x), slices.Concat(rest[:i], rest[i+1:]))
		}
	}
	try(nil, rising)
}

// P14.1, P14.2: every short row of calls, on a heap of none and on one of three.
func TestShortRows(t *testing.T) {
	const kinds, long = 5, 7
	for row := range power(kinds, long) {
		for _, l := range [][]card{nil, {{1, 100}, {2, 101}, {1, 102}}} {
			h, m := made(t, higher, l...)
			for i, rest := 0, row; i < long; i, rest = i+1, rest/kinds {
				switch kind := rest % kinds; kind {
				case 0, 1, 2:
					holdPush(t, h, m, card{kind, i})
				case 3:
					holdPop(t, h, m)
				case 4:
					holdFirst(t, h, m, 2)
				}
			}
			holdDrain(t, h, m)
		}
	}
}

// holdFirst drains up to so many items, and leaves the others.
func holdFirst[T comparable](t *testing.T, h *Heap[T], m *model[T], many int) {
	t.Helper()
	want := min(many, len(m.items))
	for x := range h.Drain() {
		if !m.take(x) {
			t.Fatalf("Drain: %v; of %v", x, m.items)
		}
		many--
		want--
		if many == 0 {
			break
		}
	}
	if want != 0 {
		t.Fatalf("Drain left %d that were wanted", want)
	}
	hold(t, h, m)
}

// shapes are longer lists: rising, falling, all alike, up and down, in turns, and mixed by a rule.
func shapes(long int) map[string][]card {
	m := map[string]func(i int) int{
		"rising":  func(i int) int { return i },
		"falling": func(i int) int { return -i },
		"alike":   func(i int) int { return 5 },
		"hill":    func(i int) int { return min(i, long-i) },
		"valley":  func(i int) int { return max(i, long-i) },
		"turns":   func(i int) int { return i * (i%2*2 - 1) },
		"few":     func(i int) int { return i * i % 7 },
		"mixed":   func(i int) int { return i * 7919 % 10007 },
	}
	out := map[string][]card{}
	for name, rank := range m {
		for i := range long {
			out[name] = append(out[name], card{rank: rank(i), name: i})
		}
	}
	return out
}

// P14.1, P14.2: lists of all lengths around the ends of a tree's rows, of several shapes.
func TestLongerLists(t *testing.T) {
	for _, long := range []int{7, 8, 9, 15, 16, 17, 31, 32, 33, 100} {
		for name, l := range shapes(long) {
			for _, given := range []int{0, 1, long / 2, long - 1, long} {
				h, m := made(t, higher, l[:given]...)
				for i, x := range l[given:] {
					holdPush(t, h, m, x)
					if i%3 == 2 {
						holdPop(t, h, m)
					}
				}
				holdDrain(t, h, m)
				if t.Failed() {
					t.Fatal(name, long, given)
				}
			}
		}
	}
}

// P14.1, P14.2: very many items, too many to hold each against all others.
func TestManyItems(t *testing.T) {
	const long = 1 << 19
	for name, l := range shapes(long) {
		want := slices.Clone(l)
		slices.SortFunc(want, func(a, b card) int { return b.rank - a.rank })
		h := Of(higher, l[:long/2]...)
		for _, x := range l[long/2:] {
			h.Push(x)
		}
		if h.Len() != long || h.Pushes() != long/2 || h.Peak() != long {
			t.Fatal(name, h.Len(), h.Pushes(), h.Peak())
		}
		seen := make([]bool, long)
		at := 0
		for x := range h.Drain() {
			if x.rank != want[at].rank || seen[x.name] {
				t.Fatal(name, at, x)
			}
			seen[x.name] = true
			at++
		}
		if at != long {
			t.Fatal(name, at)
		}
	}
}

// P14.1: the same calls tell the same items, those that are alike too.
func TestOneAnswer(t *testing.T) {
	for name, l := range shapes(50) {
		var first []card
		for i := range 5 {
			h := Of(higher, l[:25]...)
			for _, x := range l[25:] {
				h.Push(x)
			}
			got := slices.Collect(h.Drain())
			if i == 0 {
				first = got
			} else if !slices.Equal(got, first) {
				t.Error(name, got, first)
			}
		}
	}
}

// P14.1: items of any type, which the heap itself needs not compare.
func TestTypes(t *testing.T) {
	words := Of(less, "low", "", "lower", "\xff", "é", "e", "low")
	if l := slices.Collect(words.Drain()); !slices.Equal(l, []string{"", "e", "low", "low", "lower", "é", "\xff"}) {
		t.Errorf("%q", l)
	}

	functions := New(func(a, b func() int) bool { return a() < b() })
	for _, n := range []int{2, 3, 1} {
		functions.Push(func() int { return n })
	}
	var numbers []int
	for f := range functions.Drain() {
		numbers = append(numbers, f())
	}
	if f, ok := functions.Pop(); f != nil || ok || !slices.Equal(numbers, []int{1, 2, 3}) {
		t.Error(numbers, ok)
	}

	texts := Of(func(a, b []byte) bool { return len(a) > len(b) }, []byte("a"), nil, []byte("abc"))
	if l := slices.Collect(texts.Drain()); len(l) != 3 || string(l[0]) != "abc" || string(l[1]) != "a" || l[2] != nil {
		t.Error(l)
	}

	three, four := 3, 4
	value := func(p *int) int {
		if p == nil {
			return 0
		}
		return *p
	}
	pointers := Of(func(a, b *int) bool { return value(a) > value(b) }, nil, &three, nil, &four)
	if l := slices.Collect(pointers.Drain()); !slices.Equal(l, []*int{&four, &three, nil, nil}) {
		t.Error(l)
	}

	things := Of(func(a, b any) bool { _, text := a.(string); _, other := b.(string); return text && !other }, []any{1, "a", nil, []int{2}}...)
	if x, ok := things.Pop(); x != "a" || !ok || things.Len() != 3 {
		t.Error(x, ok)
	}

	empty := Of(func(a, b struct{}) bool { return false }, struct{}{}, struct{}{})
	empty.Push(struct{}{})
	if n := len(slices.Collect(empty.Drain())); n != 3 || empty.Peak() != 3 {
		t.Error(n)
	}
}

// P14.1: the order is the function's alone, and may hang on what is kept beside it.
func TestOrderIsTheFunctions(t *testing.T) {
	numbers := []int{3, 1, 4, 1, 5, 9, 2, 6}
	for _, y := range []struct {
		better func(a, b int) bool
		want   []int
	}{
		{greater, []int{9, 6, 5, 4, 3, 2, 1, 1}},
		{func(a, b int) bool { return a < b }, []int{1, 1, 2, 3, 4, 5, 6, 9}},
	} {
		if l := slices.Collect(Of(y.better, numbers...).Drain()); !slices.Equal(l, y.want) {
			t.Errorf("%v; want %v", l, y.want)
		}
	}
	rank := map[string]int{"low": 3, "er": 1, "new": 2}
	h := Of(func(a, b string) bool { return rank[a] > rank[b] }, "er", "low", "new")
	if l := slices.Collect(h.Drain()); !slices.Equal(l, []string{"low", "new", "er"}) {
		t.Error(l)
	}
}

// R4: a list that is handed in is neither changed nor kept, and nothing behind its length is read or written.
func TestMemory(t *testing.T) {
	behind := []int{3, 1, 2, 77, 78, 79}
	l := behind[:3]
	h := Of(greater, l...)
	h.Push(9)
	h.Push(8)
	if !slices.Equal(behind, []int{3, 1, 2, 77, 78, 79}) {
		t.Error(behind)
	}
	h.Pop()
	behind[0], behind[1], behind[2], behind[3] = 100, 101, 102, 103
	if got := slices.Collect(h.Drain()); !slices.Equal(got, []int{8, 3, 2, 1}) {
		t.Error(got)
	}
	if !slices.Equal(behind, []int{100, 101, 102, 103, 78, 79}) {
		t.Error(behind)
	}

	a, b := Of(greater, l...), Of(greater, l...)
	a.Push(200)
	a.Pop()
	a.Pop()
	if a.Len() != 2 || b.Len() != 3 || b.Pushes() != 0 || b.Peak() != 3 {
		t.Error(a.Len(), b.Len(), b.Pushes(), b.Peak())
	}
	if x, ok := b.Top(); x != 102 || !ok {
		t.Error(x, ok)
	}
}

// What was taken is held no longer.
func TestTakenIsLetGo(t *testing.T) {
	h := New(less)
	for i := range 20 {
		h.Push(strings.Repeat("a", i+1))
	}
	for h.Len() > 0 {
		h.Pop()
		for i, x := range h.items[h.Len():cap(h.items)] {
			if x != "" {
				t.Fatalf("%d items, and %q held at %d behind them", h.Len(), x, i)
			}
		}
	}
}

// holdNothing does all to a heap that has nothing done.
func holdNothing(t *testing.T, h *Heap[string]) {
	t.Helper()
	for range 2 {
		if x, ok := h.Top(); x != "" || ok {
			t.Errorf("Top: %q, %t", x, ok)
		}
		if x, ok := h.Pop(); x != "" || ok {
			t.Errorf("Pop: %q, %t", x, ok)
		}
		if h.Len() != 0 || h.Pushes() != 0 || h.Peak() != 0 {
			t.Errorf("%d, %d, %d", h.Len(), h.Pushes(), h.Peak())
		}
		drain := h.Drain()
		if drain == nil {
			t.Fatal("Drain: nil")
		}
		for x := range drain {
			t.Errorf("Drain: %q", x)
		}
		h.Push("a")
		h.Push("")
	}
}

// P14.1: of a nil heap, and of one with a nil function, nothing is done.
func TestNil(t *testing.T) {
	var none *Heap[string]
	holdNothing(t, none)
	holdNothing(t, &Heap[string]{})
	for _, h := range []*Heap[string]{New[string](nil), Of[string](nil), Of(nil, "a"), Of(nil, "b", "a", "c")} {
		if h == nil {
			t.Fatal("a heap with a nil function is one")
		}
		holdNothing(t, h)
	}
}

// P14.2: Drain takes nothing by itself; it takes one by one, and goes on from what is there, however often it is begun.
func TestDrain(t *testing.T) {
	h, m := made(t, greater, 4, 8, 6, 2, 0)
	drain, other := h.Drain(), h.Drain()
	hold(t, h, m)
	for range drain {
		break
	}
	m.take(8)
	hold(t, h, m)
	for x := range other {
		m.take(x)
		hold(t, h, m)
		if x == 4 {
			break
		}
	}
	holdPush(t, h, m, 5)
	if l := slices.Collect(drain); !slices.Equal(l, []int{5, 2, 0}) {
		t.Error(l)
	}
	m.items = nil
	hold(t, h, m)
	for x := range other {
		t.Error(x)
	}
	holdPush(t, h, m, 7)
	if l := slices.Collect(other); !slices.Equal(l, []int{7}) {
		t.Error(l)
	}
}

// P14.2: what is pushed or popped by whoever drains is there, or gone, when the next one is told.
func TestChangedWhileDraining(t *testing.T) {
	h := Of(greater, 5, 3, 1)
	var l []int
	for x := range h.Drain() {
		l = append(l, x)
		switch x {
		case 5:
			h.Push(9)
			h.Push(2)
		case 3:
			h.Pop()
		}
	}
	if !slices.Equal(l, []int{5, 9, 3, 1}) || h.Len() != 0 || h.Pushes() != 2 || h.Peak() != 4 {
		t.Error(l, h.Len(), h.Pushes(), h.Peak())
	}

	h = Of(greater, 4, 3, 2, 1)
	l = nil
	for x := range h.Drain() {
		l = append(l, x)
		for y := range h.Drain() {
			l = append(l, -y)
			break
		}
	}
	if !slices.Equal(l, []int{4, -3, 2, -1}) {
		t.Error(l)
	}

	next, stop := iter.Pull(Of(greater, 1, 2).Drain())
	defer stop()
	for _, want := range []int{2, 1} {
		if x, ok := next(); x != want || !ok {
			t.Error(x, ok)
		}
	}
	if x, ok := next(); x != 0 || ok {
		t.Error(x, ok)
	}
}

// P1: a function that is no order has the calls end all the same, and each item is told once.
func TestNoOrder(t *testing.T) {
	calls := 0
	for i, better := range []func(a, b int) bool{
		func(a, b int) bool { return true },
		func(a, b int) bool { return false },
		func(a, b int) bool { return a >= b },
		func(a, b int) bool { return (a-b)%3 == 1 },
		func(a, b int) bool { calls++; return calls%2 == 0 },
		func(a, b int) bool { calls++; return calls*calls%7 < 3 },
	} {
		for long := range 40 {
			h := New(better)
			var want []int
			for x := range long {
				want = append(want, x)
				if x < long/2 {
					h.Push(x)
				}
			}
			h = Of(better, append(slices.Collect(h.Drain()), want[long/2:]...)...)
			var got []int
			for h.Len() > 0 {
				top, _ := h.Top()
				x, ok := h.Pop()
				if x != top || !ok {
					t.Fatal(i, long, x, top, ok)
				}
				got = append(got, x)
			}
			slices.Sort(got)
			if !slices.Equal(got, want) {
				t.Fatal(i, long, got)
			}
		}
	}
}

// meddle makes a heap whose function does something to it, at each call from outside and as often as it may, and then does as all others.
func meddle(times int, do func(h *Heap[int])) *Heap[int] {
	var h *Heap[int]
	inside := false
	h = New(func(a, b int) bool {
		if !inside && times > 0 {
			inside = true
			times--
			do(h)
			inside = false
		}
		return a > b
	})
	return h
}

// P1: a function may do what it likes, and change the very heap that asks it: no call panics, and each item is told once.
func TestFunctionThatMeddles(t *testing.T) {
	for times := range 60 {
		for kind := range 4 {
			var out []int
			next := 1000
			h := meddle(times, func(h *Heap[int]) {
				switch kind {
				case 0:
					if x, ok := h.Pop(); ok {
						out = append(out, x)
					}
				case 1:
					h.Push(next)
					next++
				case 2:
					out = append(out, slices.Collect(h.Drain())...)
				case 3:
					if x, ok := h.Top(); ok != (h.Len() > 0) || x == 0 && ok {
						t.Error(x, ok)
					}
				}
			})
			for x := range 30 {
				h.Push(x + 1)
				if x%4 == 3 {
					x, ok := h.Pop()
					if ok {
						out = append(out, x)
					}
				}
			}
			for x := range h.Drain() {
				out = append(out, x)
			}
			holdMeddled(t, h, out, next-1000)
			if t.Failed() {
				t.Fatal(times, kind)
			}
		}
	}
}

// holdMeddled holds what came out, in any order, against the thirty that were pushed and those that the function pushed.
func holdMeddled(t *testing.T, h *Heap[int], out []int, more int) {
	t.Helper()
	var want []int
	for x := range 30 {
		want = append(want, x+1)
	}
	for x := range more {
		want = append(want, 1000+x)
	}
	slices.Sort(out)
	if !slices.Equal(out, want) || h.Len() != 0 || h.Pushes() != len(want) {
		t.Errorf("%v; want %v; Len %d, Pushes %d", out, want, h.Len(), h.Pushes())
	}
}
