package queue

import (
	"encoding/binary"
	"math"
	"slices"
	"sync"
	"testing"

	"whisperer/api"
)

// The model: a plain list of all that was pushed and isn't gone, in the order it was pushed. The one that comes first is looked for anew at each call.

type pushed struct {
	bits uint64
	n    int
}

type model struct{ list []pushed }

// place is where a moment stands: what is no number behind all, -0 ahead of +0.
func place(bits uint64) (float64, int) {
	sign, rest := bits>>63, bits&(1<<63-1)
	switch {
	case rest > 0x7ff<<52:
		return math.Inf(1), 1
	case rest == 0 && sign == 1:
		return 0, -1
	}
	return math.Float64frombits(bits), 0
}

func ahead(a, b uint64) bool {
	x, i := place(a)
	y, j := place(b)
	return x < y || x == y && i < j
}

func (m *model) first() int {
	f := 0
	for i, p := range m.list {
		if ahead(p.bits, m.list[f].bits) {
			f = i
		}
	}
	return f
}

func (m *model) push(at float64, n int) api.Errno {
	if len(m.list) == 4096 {
		return api.ErrFull
	}
	m.list = append(m.list, pushed{math.Float64bits(at), n})
	return api.OK
}

func (m *model) peek() (uint64, int, api.Errno) {
	if len(m.list) == 0 {
		return 0, 0, api.ErrNone
	}
	p := m.list[m.first()]
	return p.bits, p.n, api.OK
}

func (m *model) pop() (uint64, int, api.Errno) {
	bits, n, err := m.peek()
	if err == api.OK {
		f := m.first()
		m.list = slices.Delete(m.list, f, f+1)
	}
	return bits, n, err
}

func (m *model) before(at float64) []int {
	var all []int
	for len(m.list) > 0 && !ahead(math.Float64bits(at), m.list[m.first()].bits) {
		_, n, _ := m.pop()
		all = append(all, n)
	}
	return all
}

// both are a queue and its model; each call is made of the two, and must answer the same.
type both struct {
	t *testing.T
	q *Queue
	m model
}

func newBoth(t *testing.T) *both { return &both{t: t, q: New()} }

func (b *both) push(at float64, n int) {
	b.t.Helper()
	if got, want := b.q.Push(at, n), b.m.push(at, n); got != want {
		b.t.Fatalf("Push(%x, %d): %d, want %d", math.Float64bits(at), n, got, want)
	}
	b.len()
}

func (b *both) pop() {
	b.t.Helper()
	at, n, err := b.q.Pop()
	bits, wantN, wantErr := b.m.pop()
	if math.Float64bits(at) != bits || n != wantN || err != wantErr {
		b.t.Fatalf("Pop: %x, %d, %d, want %x, %d, %d", math.Float64bits(at), n, err, bits, wantN, wantErr)
	}
	b.len()
}

func (b *both) peek() {
	b.t.Helper()
	at, n, err := b.q.Peek()
	bits, wantN, wantErr := b.m.peek()
	if math.Float64bits(at) != bits || n != wantN || err != wantErr {
		b.t.Fatalf("Peek: %x, %d, %d, want %x, %d, %d", math.Float64bits(at), n, err, bits, wantN, wantErr)
	}
	b.len()
}

func (b *both) before(at float64) {
	b.t.Helper()
	if got, want := b.q.Before(at), b.m.before(at); !slices.Equal(got, want) {
		b.t.Fatalf("Before(%x): %v, want %v", math.Float64bits(at), got, want)
	}
	b.len()
}

func (b *both) len() {
	b.t.Helper()
	if got, want := b.q.Len(), len(b.m.list); got != want {
		b.t.Fatalf("Len: %d, want %d", got, want)
	}
}

// drain pops all that there is, and once more.
func (b *both) drain() {
	b.t.Helper()
	for range len(b.m.list) + 1 {
		b.peek()
		b.pop()
	}
}

var minusZero = math.Copysign(0, -1)

// inOrder are moments of each sort, each one ahead of the next.
func inOrder() []float64 {
	return []float64{
		math.Inf(-1), -math.MaxFloat64, -2, math.Nextafter(-1, -2), -1, math.Nextafter(-1, 0), -math.SmallestNonzeroFloat64, minusZero,
		0, math.SmallestNonzeroFloat64, math.Nextafter(1, 0), 1, math.Nextafter(1, 2), 2, math.MaxFloat64, math.Inf(1),
		math.NaN(),
	}
}

// noNumbers have other bits each, and either sign.
func noNumbers() []float64 {
	var l []float64
	for _, x := range []uint64{0x7fffffffffffffff, 0x7ff0000000000001, 0x7ff8000000000000, 0x7ff8000000000001, 0x7ff7ffffffffffff} {
		l = append(l, math.Float64frombits(x), math.Float64frombits(x|1<<63))
	}
	return l
}

func allMoments() []float64 { return slices.Concat(inOrder(), noNumbers()) }

// numbers are n of 64 bits, of all sorts, by a rule.
func numbers(n int) []uint64 {
	l := make([]uint64, n)
	x := uint64(1)
	for i := range l {
		x = x*6364136223846793005 + 1442695040888963407
		l[i] = x ^ x>>29
	}
	return l
}

// popAll are the numbers of a queue, as Pop tells them.
func popAll(t *testing.T, q *Queue) []int {
	t.Helper()
	var all []int
	for q.Len() > 0 {
		_, n, err := q.Pop()
		if err != api.OK {
			t.Fatalf("Pop: %d with %d there", err, q.Len())
		}
		all = append(all, n)
	}
	return all
}

func pushAll(t *testing.T, q *Queue, at ...float64) {
	t.Helper()
	for i, a := range at {
		if err := q.Push(a, i); err != api.OK {
			t.Fatalf("Push(%v, %d): %d", a, i, err)
		}
	}
}

func TestExample(t *testing.T) {
	q := New()
	for _, p := range []struct {
		at float64
		n  int
	}{{math.NaN(), 7}, {2, 8}, {-1, 9}, {2, 10}} {
		if err := q.Push(p.at, p.n); err != api.OK {
			t.Fatal(err)
		}
	}
	if got := popAll(t, q); !slices.Equal(got, []int{9, 8, 10, 7}) {
		t.Errorf("popped %v", got)
	}
}

func TestNil(t *testing.T) {
	var q *Queue
	for _, at := range allMoments() {
		if err := q.Push(at, 3); err != api.ErrNil {
			t.Errorf("Push(%v): %d", at, err)
		}
		if l := q.Before(at); len(l) != 0 {
			t.Errorf("Before(%v): %v", at, l)
		}
	}
	if at, n, err := q.Pop(); math.Float64bits(at) != 0 || n != 0 || err != api.ErrNil {
		t.Errorf("Pop: %v, %d, %d", at, n, err)
	}
	if at, n, err := q.Peek(); math.Float64bits(at) != 0 || n != 0 || err != api.ErrNil {
		t.Errorf("Peek: %v, %d, %d", at, n, err)
	}
	if n := q.Len(); n != 0 {
		t.Errorf("Len: %d", n)
	}
}

func TestNone(t *testing.T) {
	b := newBoth(t)
	for range 3 {
		for _, at := range allMoments() {
			b.before(at)
		}
		b.peek()
		b.pop()
		b.pop()
		b.push(minusZero, -7) // what was there once isn't told beside ErrNone
		b.push(math.NaN(), 7)
		b.pop()
		b.before(math.Inf(1))
		b.pop()
	}
}

func TestOneComesBackBitByBit(t *testing.T) {
	counts := []int{math.MinInt, math.MinInt + 1, math.MinInt32, -1, 0, 1, math.MaxInt32, api.MaxItems, math.MaxInt - 1, math.MaxInt}
	for _, at := range allMoments() {
		for _, n := range counts {
			q := New()
			if err := q.Push(at, n); err != api.OK || q.Len() != 1 {
				t.Fatalf("Push: %d, Len %d", err, q.Len())
			}
			for range 2 {
				if a, got, err := q.Peek(); math.Float64bits(a) != math.Float64bits(at) || got != n || err != api.OK || q.Len() != 1 {
					t.Errorf("Peek: %x, %d, %d; pushed %x, %d", math.Float64bits(a), got, err, math.Float64bits(at), n)
				}
			}
			if a, got, err := q.Pop(); math.Float64bits(a) != math.Float64bits(at) || got != n || err != api.OK || q.Len() != 0 {
				t.Errorf("Pop: %x, %d, %d; pushed %x, %d", math.Float64bits(a), got, err, math.Float64bits(at), n)
			}
			if _, _, err := q.Pop(); err != api.ErrNone {
				t.Errorf("it is there twice: %d", err)
			}
		}
	}
}

// Each one is popped ahead of all behind it, however they were pushed.
func TestOrderOfTwo(t *testing.T) {
	l := inOrder()
	for i := range l {
		for j := range l {
			q := New()
			q.Push(l[i], i)
			q.Push(l[j], j)
			if got := popAll(t, q); !slices.Equal(got, []int{min(i, j), max(i, j)}) {
				t.Errorf("pushed %v, %v: popped %v", l[i], l[j], got)
			}
		}
	}
}

func TestOrderOfPermutations(t *testing.T) {
	l := []float64{math.Inf(-1), -1, minusZero, 0, 1, math.Inf(1), math.NaN()}
	var try func(order []int)
	try = func(order []int) {
		if len(order) == len(l) {
			q := New()
			for _, i := range order {
				q.Push(l[i], i)
			}
			if got := popAll(t, q); !slices.Equal(got, []int{0, 1, 2, 3, 4, 5, 6}) {
				t.Errorf("pushed %v: popped %v", order, got)
			}
			return
		}
		for i := range l {
			if !slices.Contains(order, i) {
				try(append(slices.Clone(order), i))
			}
		}
	}
	try(nil)
}

func TestOnePlaceIsInTheOrderPushed(t *testing.T) {
	for _, at := range inOrder() {
		for _, count := range []int{2, 3, 4, 7, 8, 100, api.MaxItems} {
			q := New()
			for i := range count {
				q.Push(at, count-i) // the numbers go down: they have no say
			}
			want := count
			for q.Len() > 0 {
				if _, n, _ := q.Pop(); n != want {
					t.Fatalf("%d at %v: %d, want %d", count, at, n, want)
				}
				want--
			}
		}
	}
}

func TestWhatIsNoNumberIsAtOnePlace(t *testing.T) {
	l := noNumbers()
	for _, order := range [][]float64{l, reversed(l)} {
		b := newBoth(t)
		for i, at := range order {
			b.push(at, -i)
			b.push(math.Inf(1), 100+i)
		}
		b.drain()
		q := New()
		pushAll(t, q, order...)
		for i, at := range order {
			a, n, err := q.Pop()
			if n != i || err != api.OK || math.Float64bits(a) != math.Float64bits(at) {
				t.Errorf("%x, %d, %d, want %x, %d", math.Float64bits(a), n, err, math.Float64bits(at), i)
			}
		}
	}
}

func reversed(l []float64) []float64 {
	r := slices.Clone(l)
	slices.Reverse(r)
	return r
}

// The same number may be there often, and each time it is popped.
func TestOneNumberOften(t *testing.T) {
	b := newBoth(t)
	for _, at := range []float64{1, 0, 1, math.NaN(), 0, minusZero} {
		b.push(at, 5)
		b.push(at, 5)
	}
	b.drain()
}

func TestPeekStays(t *testing.T) {
	b := newBoth(t)
	for i, at := range reversed(allMoments()) {
		b.push(at, i)
		for range 3 {
			b.peek()
		}
	}
	b.drain()
}

func TestFull(t *testing.T) {
	b := newBoth(t)
	for i := range 4096 {
		if b.q.Len() != i {
			t.Fatalf("Len: %d, want %d", b.q.Len(), i)
		}
		b.push(float64(i%97-48), i)
	}
	for _, at := range allMoments() {
		for range 2 {
			if err := b.q.Push(at, -1); err != api.ErrFull || b.q.Len() != 4096 {
				t.Fatalf("Push(%v): %d, Len %d", at, err, b.q.Len())
			}
		}
	}
	b.peek() // one that was refused at -Inf isn't there
	b.pop()
	b.push(math.Inf(-1), -2)
	b.push(math.Inf(-1), -3) // ErrFull again
	b.before(-48)
	b.push(-47, -4) // behind those at one place with it that were pushed earlier
	b.drain()
	b.push(0, 1)
	b.pop()
}

// A push that was refused has no turn of its own: those behind it are still in order.
func TestRefusedLeavesNothing(t *testing.T) {
	b := newBoth(t)
	for i := range 4096 {
		b.push(math.NaN(), i)
	}
	for range 10 {
		b.push(math.NaN(), -1)
		b.pop()
		b.push(math.NaN(), 5000)
		b.push(minusZero, -1)
	}
	b.before(math.NaN())
	b.pop()
}

// Before is held at each moment: earlier than all, at one's own place, between two, behind all.
func TestBeforeAtEachMoment(t *testing.T) {
	l := inOrder()
	for _, at := range l {
		for skip := range 3 {
			b := newBoth(t)
			for i := len(l) - 1; i >= 0; i-- {
				if i%3 != skip {
					b.push(l[i], i)
					b.push(l[i], 100+i)
				}
			}
			b.before(at)
			b.before(at) // they are gone
			b.peek()
			b.drain()
		}
	}
}

func TestBeforeEdges(t *testing.T) {
	other := math.Float64frombits(0xfff8000000000123)
	all := []float64{math.NaN(), math.Inf(1), 2, 1, 0, minusZero, -1, math.Inf(-1), other, 0, minusZero}
	for _, c := range []struct {
		name string
		at   float64
		want []int
	}{
		{"-Inf", math.Inf(-1), []int{7}},
		{"between two", -0.5, []int{7, 6}},
		{"-0, and not +0", minusZero, []int{7, 6, 5, 10}},
		{"+0", 0, []int{7, 6, 5, 10, 4, 9}},
		{"its own place", 1, []int{7, 6, 5, 10, 4, 9, 3}},
		{"just ahead of 2", math.Nextafter(2, 1), []int{7, 6, 5, 10, 4, 9, 3}},
		{"the greatest number", math.MaxFloat64, []int{7, 6, 5, 10, 4, 9, 3, 2}},
		{"+Inf, and not what is no number", math.Inf(1), []int{7, 6, 5, 10, 4, 9, 3, 2, 1}},
		{"no number", math.NaN(), []int{7, 6, 5, 10, 4, 9, 3, 2, 1, 0, 8}},
		{"no number with the sign -", math.Float64frombits(0xffffffffffffffff), []int{7, 6, 5, 10, 4, 9, 3, 2, 1, 0, 8}},
	} {
		q := New()
		pushAll(t, q, all...)
		if got := q.Before(c.at); !slices.Equal(got, c.want) {
			t.Errorf("%s: %v, want %v", c.name, got, c.want)
		}
		if q.Len() != len(all)-len(c.want) {
			t.Errorf("%s: %d are left", c.name, q.Len())
		}
	}
}

func TestBeforeEarlierThanAll(t *testing.T) {
	q := New()
	pushAll(t, q, 3, 0, math.NaN())
	for _, at := range []float64{math.Inf(-1), -1, -math.SmallestNonzeroFloat64, minusZero} {
		if l := q.Before(at); len(l) != 0 || q.Len() != 3 {
			t.Errorf("Before(%v): %v, %d are left", at, l, q.Len())
		}
	}
	if got := popAll(t, q); !slices.Equal(got, []int{1, 0, 2}) {
		t.Error(got)
	}
}

func TestBeforeTakesAFullQueue(t *testing.T) {
	b := newBoth(t)
	for i, x := range numbers(4096) {
		b.push(math.Float64frombits(x), i)
	}
	b.before(-1e-300)
	b.before(1)
	b.before(math.NaN())
	if b.q.Len() != 0 {
		t.Errorf("%d are left", b.q.Len())
	}
}

// Before tells what Pop would: of two queues alike, one is asked this way and one that way.
func TestBeforeIsPopOneByOne(t *testing.T) {
	for _, at := range allMoments() {
		p, q := New(), New()
		for i, x := range allMoments() {
			p.Push(x, i)
			q.Push(x, i)
		}
		for _, n := range q.Before(at) {
			if _, got, err := p.Pop(); got != n || err != api.OK {
				t.Errorf("Before(%v): %d, Pop: %d, %d", at, n, got, err)
			}
		}
		if got, want := popAll(t, q), popAll(t, p); !slices.Equal(got, want) {
			t.Errorf("left by Before(%v): %v, want %v", at, got, want)
		}
	}
}

// steps are what may be done in turns; each takes a number for what it pushes.
func steps() []func(b *both, n int) {
	other := math.Float64frombits(0xfff0000000000001)
	return []func(b *both, n int){
		func(b *both, n int) { b.push(minusZero, n) },
		func(b *both, n int) { b.push(0, n) },
		func(b *both, n int) { b.push(math.NaN(), n) },
		func(b *both, n int) { b.push(other, n) },
		func(b *both, n int) { b.pop() },
		func(b *both, n int) { b.peek() },
		func(b *both, n int) { b.before(minusZero) },
		func(b *both, n int) { b.before(other) },
	}
}

// All calls in turns, each row of up to 5 of them, and then all that is left.
func TestTurns(t *testing.T) {
	all := steps()
	rows := 1
	for length := range 6 {
		for row := range rows {
			b := newBoth(t)
			for i, rest := 0, row; i < length; i, rest = i+1, rest/len(all) {
				all[rest%len(all)](b, 10-i)
			}
			b.drain()
		}
		rows *= len(all)
	}
}

// Many calls in turns, with few moments (so that many are at one place) and with all sorts of them.
func TestManyTurns(t *testing.T) {
	few := []float64{1, minusZero, 0, math.Inf(1), math.NaN(), math.Float64frombits(0xfff8000000000001), math.Inf(-1), -1}
	b := newBoth(t)
	for i, x := range numbers(20000) {
		at := math.Float64frombits(x)
		if x>>8&3 != 0 {
			at = few[x>>10&7]
		}
		switch k := x >> 16 & 63; {
		case k < 38:
			b.push(at, i)
		case k < 58:
			b.pop()
		case k < 63:
			b.peek()
		case x>>24&15 == 0:
			b.before(at)
		}
	}
	b.drain()
}

// What is pushed behind a pop at the same place comes behind what was there.
func TestPushedAgain(t *testing.T) {
	for _, at := range inOrder() {
		b := newBoth(t)
		for i := range 200 {
			b.push(at, i)
			b.push(at, -i)
			b.pop()
		}
		b.drain()
	}
}

// Each of many is popped once, whatever was pushed between.
func TestPoppedOnce(t *testing.T) {
	q := New()
	seen := map[int]int{}
	take := func(l ...int) {
		for _, n := range l {
			seen[n]++
		}
	}
	count := 3 * api.MaxItems
	for i, x := range numbers(count) {
		if q.Push(math.Float64frombits(x), i) != api.OK {
			t.Fatal("it is full")
		}
		if i%3 == 1 {
			_, n, _ := q.Pop()
			take(n)
		}
		if i%1000 == 999 {
			take(q.Before(1e200)...)
		}
	}
	take(popAll(t, q)...)
	if len(seen) != count {
		t.Fatalf("%d of %d were told", len(seen), count)
	}
	for n, times := range seen {
		if times != 1 {
			t.Errorf("%d was told %d times", n, times)
		}
	}
}

// What Before told belongs to the caller: the queue doesn't see it changed, nor do later calls change it.
func TestAnswersAreNew(t *testing.T) {
	q := New()
	pushAll(t, q, 1, 2, 3, 4)
	first := q.Before(2)
	for i := range first {
		first[i] = 99
	}
	first = append(first, 98, 97, 96)
	q.Push(2, 50)
	second := q.Before(3)
	if !slices.Equal(second, []int{50, 2}) {
		t.Errorf("second: %v", second)
	}
	q.Push(0, 60)
	if rest := popAll(t, q); !slices.Equal(rest, []int{60, 3}) {
		t.Errorf("rest: %v", rest)
	}
	if !slices.Equal(first, []int{99, 99, 98, 97, 96}) || !slices.Equal(second, []int{50, 2}) {
		t.Errorf("changed: %v, %v", first, second)
	}
}

func TestTwoQueuesAreApart(t *testing.T) {
	a, b := newBoth(t), newBoth(t)
	if a.q == b.q || a.q == nil {
		t.Fatal("New made none of its own")
	}
	for i, at := range allMoments() {
		a.push(at, i)
		b.push(-at, 1000+i)
		if i%3 == 0 {
			a.pop()
		}
		if i%7 == 0 {
			b.before(0)
		}
	}
	a.drain()
	b.drain()
}

// Nothing of what was popped is kept.
func TestNothingStays(t *testing.T) {
	q := New()
	pushAll(t, q, 3, 1, 2, 5, 4)
	q.Pop()
	q.Before(3)
	for i, e := range q.waiting[:cap(q.waiting)] {
		if i >= q.Len() && e != (entry{}) {
			t.Errorf("behind the last one: %v", e)
		}
	}
}

func TestManyGoroutines(t *testing.T) {
	var wait sync.WaitGroup
	for g := range 8 {
		wait.Go(func() {
			q := New()
			for i, x := range numbers(1000) {
				q.Push(float64(x%10), g*1000+i)
			}
			last, lastN := -1.0, -1
			for q.Len() > 0 {
				at, n, err := q.Pop()
				if err != api.OK || at < last || at == last && n < lastN || n/1000 != g {
					t.Errorf("%v, %d, %d behind %v, %d", at, n, err, last, lastN)
				}
				last, lastN = at, n
			}
		})
	}
	wait.Wait()
}

// Each 9 bytes are a call and a moment.
func FuzzAgainstModel(f *testing.F) {
	for _, at := range allMoments() {
		var seed []byte
		for call := range byte(8) {
			seed = binary.LittleEndian.AppendUint64(append(seed, call), math.Float64bits(at))
		}
		f.Add(seed)
	}
	f.Fuzz(func(t *testing.T, data []byte) {
		b := newBoth(t)
		for i := 0; len(data) >= 9; i, data = i+1, data[9:] {
			at := math.Float64frombits(binary.LittleEndian.Uint64(data[1:]))
			switch data[0] & 7 {
			case 0:
				b.pop()
			case 1:
				b.peek()
			case 2:
				b.before(at)
			default:
				b.push(at, i)
			}
		}
		b.drain()
	})
}
