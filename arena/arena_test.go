package arena

import (
	"bytes"
	"math"
	"slices"
	"sync"
	"testing"

	"whisperer/api"
)

// The model: the bytes as a list that is laid up anew by each call, and how many cells there are. All cells that aren't a byte's are 0.

type model struct {
	bytes []byte
	cells int
}

func (m *model) insert(at int, b []byte) api.Errno {
	if at < 0 || len(m.bytes) < at {
		return api.ErrRange
	}
	if len(m.bytes)+len(b) > m.cells {
		return api.ErrFull
	}
	m.bytes = slices.Concat(m.bytes[:at], b, m.bytes[at:])
	return api.OK
}

func (m *model) holds(from, to int) bool {
	return 0 <= from && from <= to && to <= len(m.bytes)
}

func (m *model) delete(from, to int) api.Errno {
	if !m.holds(from, to) {
		return api.ErrRange
	}
	m.bytes = slices.Concat(m.bytes[:from], m.bytes[to:])
	return api.OK
}

func (m *model) move(from, to, at int) api.Errno {
	if !m.holds(from, to) {
		return api.ErrRange
	}
	taken, others := m.bytes[from:to], slices.Concat(m.bytes[:from], m.bytes[to:])
	if at < 0 || len(others) < at {
		return api.ErrRange
	}
	m.bytes = slices.Concat(others[:at], taken, others[at:])
	return api.OK
}

func (m *model) cell(i int) byte {
	if i < len(m.bytes) {
		return m.bytes[i]
	}
	return 0
}

func (m *model) zero() bool {
	return bytes.Count(m.bytes, []byte{0}) == len(m.bytes)
}

// both are an arena and its model; each call is made of the two, must answer the same, and must leave the same.
type both struct {
	t *testing.T
	a *Arena
	m model
}

func newBoth(t *testing.T, n int) *both {
	t.Helper()
	a, err := New(n)
	if err != api.OK || a == nil {
		t.Fatalf("New(%d): %v, %d", n, a, err)
	}
	b := &both{t: t, a: a, m: model{cells: n}}
	b.same("New")
	return b
}

// bothWith are of n cells, the first ones with these bytes.
func bothWith(t *testing.T, n int, first ...byte) *both {
	t.Helper()
	b := newBoth(t, n)
	b.insert(0, first...)
	return b
}

func (b *both) insert(at int, l ...byte) api.Errno {
	b.t.Helper()
	before := slices.Clone(l)
	got, want := b.a.Insert(at, l...), b.m.insert(at, before)
	if got != want || !bytes.Equal(l, before) {
		b.t.Fatalf("Insert(%d, %v): %d, want %d; the list is then %v", at, before, got, want, l)
	}
	b.same("Insert")
	return got
}

func (b *both) delete(from, to int) api.Errno {
	b.t.Helper()
	got, want := b.a.Delete(from, to), b.m.delete(from, to)
	if got != want {
		b.t.Fatalf("Delete(%d, %d): %d, want %d", from, to, got, want)
	}
	b.same("Delete")
	return got
}

func (b *both) move(from, to, at int) api.Errno {
	b.t.Helper()
	got, want := b.a.Move(from, to, at), b.m.move(from, to, at)
	if got != want {
		b.t.Fatalf("Move(%d, %d, %d): %d, want %d", from, to, at, got, want)
	}
	b.same("Move")
	return got
}

func (b *both) wipe() {
	b.t.Helper()
	b.a.Wipe()
	b.m.bytes = nil
	b.same("Wipe")
	if !b.a.Zero() || b.a.Len() != 0 {
		b.t.Fatalf("behind a Wipe: Zero %v, Len %d", b.a.Zero(), b.a.Len())
	}
}

// same looks at each cell and each byte, and at those just beside them.
func (b *both) same(call string) {
	b.t.Helper()
	if b.a.Len() != len(b.m.bytes) || b.a.Cap() != b.m.cells {
		b.t.Fatalf("behind %s: Len %d, Cap %d, want %d, %d", call, b.a.Len(), b.a.Cap(), len(b.m.bytes), b.m.cells)
	}
	for i := -1; i <= b.m.cells; i++ {
		b.at(call, i)
		b.cell(call, i)
	}
	if !b.a.Clean() || b.a.Zero() != b.m.zero() {
		b.t.Fatalf("behind %s: Clean %v, Zero %v with %v", call, b.a.Clean(), b.a.Zero(), b.m.bytes)
	}
}

func (b *both) at(call string, i int) {
	b.t.Helper()
	want, wantErr := byte(0), api.ErrRange
	if 0 <= i && i < len(b.m.bytes) {
		want, wantErr = b.m.bytes[i], api.OK
	}
	if got, err := b.a.At(i); got != want || err != wantErr {
		b.t.Fatalf("behind %s: At(%d): %d, %d, want %d, %d", call, i, got, err, want, wantErr)
	}
}

func (b *both) cell(call string, i int) {
	b.t.Helper()
	want, wantErr := byte(0), api.ErrRange
	if 0 <= i && i < b.m.cells {
		want, wantErr = b.m.cell(i), api.OK
	}
	if got, err := b.a.Cell(i); got != want || err != wantErr {
		b.t.Fatalf("behind %s: Cell(%d): %d, %d, want %d, %d", call, i, got, err, want, wantErr)
	}
}

// copy lays the bytes into a list of n, whose memory goes on behind it.
func (b *both) copy(n int) {
	b.t.Helper()
	memory := bytes.Repeat([]byte{77}, n+9)
	want := slices.Clone(memory)
	wantN := min(n, len(b.m.bytes))
	for i := range wantN {
		want[i] = b.m.bytes[i]
	}
	if got := b.a.Copy(memory[:n]); got != wantN || !bytes.Equal(memory, want) {
		b.t.Fatalf("Copy of %d: %d, %v, want %d, %v", n, got, memory, wantN, want)
	}
	b.same("Copy")
}

// row is n bytes that aren't 0, each one other than those near it.
func row(n int) []byte {
	l := make([]byte, n)
	for i := range l {
		l[i] = byte(i%251 + 1)
	}
	return l
}

// numbers are n of 64 bits, of all sorts, by a rule.
func numbers(n int) []uint64 {
	l := make([]uint64, n)
	x := uint64(1)
	for i := range l {
		x = x*6364136223846793005 + 1442695040888963407
		l[i] = x ^ x>>29
	}
	return l
}

// far are places that no arena has, the least and the greatest among them.
func far() []int {
	return []int{math.MinInt, math.MinInt + 1, math.MinInt32, -4097, -4096, -2, -1, 4097, math.MaxInt32, math.MaxInt - 1, math.MaxInt}
}

func TestExample(t *testing.T) {
	a, err := New(5)
	holds(t, "New(5)", a, err, 0, []byte{0, 0, 0, 0, 0})
	err = a.Insert(0, 1, 2, 3)
	holds(t, "Insert(0, 1 2 3)", a, err, 3, []byte{1, 2, 3, 0, 0})
	err = a.Insert(1, 9)
	holds(t, "Insert(1, 9)", a, err, 4, []byte{1, 9, 2, 3, 0})
	err = a.Delete(0, 2)
	holds(t, "Delete(0, 2)", a, err, 2, []byte{2, 3, 0, 0, 0})
}

// holds asks for no error, so many bytes, and these cells.
func holds(t *testing.T, name string, a *Arena, err api.Errno, n int, cells []byte) {
	t.Helper()
	var got []byte
	for i := range a.Cap() {
		c, err := a.Cell(i)
		if err != api.OK {
			t.Errorf("%s: Cell(%d): %d", name, i, err)
		}
		got = append(got, c)
	}
	if err != api.OK || a.Len() != n || !bytes.Equal(got, cells) {
		t.Errorf("%s: %d, %d bytes, %v, want %d, %v", name, err, a.Len(), got, n, cells)
	}
}

// The whole's third example: of 1 2 3 the first two go.
func TestExampleOfTheWhole(t *testing.T) {
	a, _ := New(5)
	a.Insert(0, 1, 2, 3)
	err := a.Delete(0, 2)
	holds(t, "Delete(0, 2)", a, err, 1, []byte{3, 0, 0, 0, 0})
}

func TestNil(t *testing.T) {
	var a *Arena
	for _, i := range slices.Concat(far(), []int{0, 1, 4096}) {
		if err := a.Insert(i); err != api.ErrNil {
			t.Errorf("Insert(%d): %d", i, err)
		}
		if err := a.Insert(i, row(5000)...); err != api.ErrNil {
			t.Errorf("Insert(%d, of 5000): %d", i, err)
		}
		if c, err := a.At(i); c != 0 || err != api.ErrNil {
			t.Errorf("At(%d): %d, %d", i, c, err)
		}
		if c, err := a.Cell(i); c != 0 || err != api.ErrNil {
			t.Errorf("Cell(%d): %d, %d", i, c, err)
		}
		for _, j := range []int{math.MinInt, -1, 0, 1, math.MaxInt} {
			if err := a.Delete(i, j); err != api.ErrNil {
				t.Errorf("Delete(%d, %d): %d", i, j, err)
			}
			if err := a.Move(i, j, i); err != api.ErrNil {
				t.Errorf("Move(%d, %d, %d): %d", i, j, i, err)
			}
			if err := a.Move(0, 0, j); err != api.ErrNil {
				t.Errorf("Move(0, 0, %d): %d", j, err)
			}
		}
	}
	a.Wipe()
	if a.Len() != 0 || a.Cap() != 0 || !a.Clean() || !a.Zero() {
		t.Errorf("Len %d, Cap %d, Clean %v, Zero %v", a.Len(), a.Cap(), a.Clean(), a.Zero())
	}
	to := []byte{5, 6}
	if n := a.Copy(to); n != 0 || !bytes.Equal(to, []byte{5, 6}) {
		t.Errorf("Copy: %d, %v", n, to)
	}
	if n := a.Copy(nil); n != 0 {
		t.Errorf("Copy(nil): %d", n)
	}
}

func TestNewMayNotBe(t *testing.T) {
	for _, n := range slices.Concat(far(), []int{0, 4098, 8192, 1 << 16, 1<<32 + 1}) {
		if a, err := New(n); a != nil || err != api.ErrRange {
			t.Errorf("New(%d): %v, %d", n, a, err)
		}
	}
}

// Each size that may be: all of its cells are there, and all may be bytes.
func TestNewOfEachSize(t *testing.T) {
	for n := 1; n <= 4096; n++ {
		a, err := New(n)
		if err != api.OK || a.Cap() != n || a.Len() != 0 || !a.Zero() || !a.Clean() {
			t.Fatalf("New(%d): %d, Cap %d, Len %d", n, err, a.Cap(), a.Len())
		}
		if err := a.Insert(0, row(n+1)...); err != api.ErrFull || a.Len() != 0 || !a.Zero() {
			t.Fatalf("%d cells, one more: %d, Len %d", n, err, a.Len())
		}
		if err := a.Insert(0, row(n)...); err != api.OK || a.Len() != n || a.Cap() != n || a.Zero() {
			t.Fatalf("%d cells, as many: %d, Len %d", n, err, a.Len())
		}
		if c, err := a.Cell(n - 1); c != row(n)[n-1] || err != api.OK {
			t.Fatalf("%d cells, the last one: %d, %d", n, c, err)
		}
	}
}

func TestWithoutBytes(t *testing.T) {
	for _, n := range []int{1, 2, 5, 4096} {
		b := newBoth(t, n)
		if b.delete(0, 0) != api.OK || b.move(0, 0, 0) != api.OK || b.insert(0) != api.OK {
			t.Errorf("%d cells: nothing of nothing is refused", n)
		}
		if b.delete(0, 1) != api.ErrRange || b.delete(1, 1) != api.ErrRange || b.move(0, 0, 1) != api.ErrRange || b.insert(1) != api.ErrRange {
			t.Errorf("%d cells: a place behind the bytes is taken", n)
		}
		if _, err := b.a.At(0); err != api.ErrRange {
			t.Errorf("%d cells: At(0): %d", n, err)
		}
		b.wipe()
		b.copy(0)
		b.copy(3)
	}
}

func TestAllAreBytes(t *testing.T) {
	for _, n := range []int{1, 2, 5, 4096} {
		b := bothWith(t, n, row(n)...)
		for _, at := range []int{0, n / 2, n} {
			if b.insert(at) != api.OK || b.insert(at, 9) != api.ErrFull {
				t.Errorf("%d cells, full: Insert at %d", n, at)
			}
		}
		if b.insert(n+1) != api.ErrRange || b.insert(n+1, 9) != api.ErrRange || b.insert(-1, 9) != api.ErrRange {
			t.Errorf("%d cells, full: the place goes ahead of the room", n)
		}
		b.move(0, n, 0)
		b.move(0, 1, n-1)
		b.move(n-1, n, 0)
		b.move(0, 1, n)
		b.copy(n - 1)
		b.copy(n)
		b.copy(n + 1)
		b.delete(n-1, n)
		b.insert(0, 9)
		b.delete(0, n)
		b.insert(0, row(n)...)
		b.wipe()
	}
}

// Insert of 0 to 5 bytes at each place, and beside those there are, at each count of bytes in 6 cells.
func TestInsertEverywhere(t *testing.T) {
	for used := range 7 {
		for at := -2; at <= 8; at++ {
			for n := range 9 {
				b := bothWith(t, 6, row(used)...)
				err := b.insert(at, bytes.Repeat([]byte{200}, n)...)
				want := api.OK
				switch {
				case at < 0 || at > used:
					want = api.ErrRange
				case used+n > 6:
					want = api.ErrFull
				}
				if err != want {
					t.Errorf("%d bytes, Insert(%d, of %d): %d, want %d", used, at, n, err, want)
				}
			}
		}
	}
}

func TestInsertPlaces(t *testing.T) {
	for _, c := range []struct {
		name string
		at   int
		b    []byte
		want []byte
	}{
		{"ahead of all", 0, []byte{7, 8}, []byte{7, 8, 1, 2, 3, 0, 0, 0}},
		{"between", 1, []byte{7, 8}, []byte{1, 7, 8, 2, 3, 0, 0, 0}},
		{"more than are behind", 2, []byte{7, 8, 9}, []byte{1, 2, 7, 8, 9, 3, 0, 0}},
		{"behind all", 3, []byte{7, 8}, []byte{1, 2, 3, 7, 8, 0, 0, 0}},
		{"as many as there is room for", 1, []byte{5, 6, 7, 8, 9}, []byte{1, 5, 6, 7, 8, 9, 2, 3}},
		{"zeros", 1, []byte{0, 0}, []byte{1, 0, 0, 2, 3, 0, 0, 0}},
		{"nothing", 1, nil, []byte{1, 2, 3, 0, 0, 0, 0, 0}},
	} {
		a, _ := New(8)
		a.Insert(0, 1, 2, 3)
		err := a.Insert(c.at, c.b...)
		holds(t, c.name, a, err, 3+len(c.b), c.want)
	}
}

// The place goes ahead of the room, and what was refused leaves nothing.
func TestInsertRefused(t *testing.T) {
	for _, at := range far() {
		for _, n := range []int{0, 1, 3, 4, 5000} {
			b := bothWith(t, 6, 1, 2, 3)
			if err := b.insert(at, row(n)...); err != api.ErrRange {
				t.Errorf("Insert(%d, of %d): %d", at, n, err)
			}
			b.insert(3, 4)
		}
	}
	b := bothWith(t, 6, 1, 2, 3)
	for _, n := range []int{4, 5, 4096, 1 << 20} {
		if err := b.insert(1, row(n)...); err != api.ErrFull {
			t.Errorf("Insert(1, of %d): %d", n, err)
		}
	}
}

// What lies behind the list's length is no part of it.
func TestInsertTakesTheLengthAlone(t *testing.T) {
	memory := []byte{7, 8, 9, 10, 11, 12}
	b := newBoth(t, 4)
	b.insert(0, memory[:3]...)
	b.insert(1, memory[3:3]...)
	if c, err := b.a.Cell(3); c != 0 || err != api.OK {
		t.Errorf("the cell behind: %d, %d", c, err)
	}
	if !bytes.Equal(memory, []byte{7, 8, 9, 10, 11, 12}) {
		t.Errorf("changed: %v", memory)
	}
}

// What was handed in may be changed when the call has answered.
func TestInsertKeepsNoList(t *testing.T) {
	l := row(4)
	b := newBoth(t, 4)
	b.insert(0, l...)
	clear(l)
	b.same("a change of the list")
	b.wipe()
	l[0], l[1] = 5, 6
	b.insert(0, l[:2]...)
	b.delete(0, 1)
	if !bytes.Equal(l, []byte{5, 6, 0, 0}) {
		t.Errorf("the arena changed the list: %v", l)
	}
}

// Each from and to, also those that may not be, at each count of bytes in 6 cells.
func TestDeleteEverywhere(t *testing.T) {
	for used := range 7 {
		for from := -2; from <= 8; from++ {
			for to := -2; to <= 8; to++ {
				b := bothWith(t, 6, row(used)...)
				err := b.delete(from, to)
				if ok := 0 <= from && from <= to && to <= used; ok != (err == api.OK) {
					t.Errorf("%d bytes, Delete(%d, %d): %d", used, from, to, err)
				}
			}
		}
	}
}

func TestDeleteRanges(t *testing.T) {
	for _, c := range []struct {
		name     string
		from, to int
		want     []byte
	}{
		{"nothing ahead of all", 0, 0, []byte{1, 2, 3, 4, 5}},
		{"nothing between", 2, 2, []byte{1, 2, 3, 4, 5}},
		{"nothing behind all", 5, 5, []byte{1, 2, 3, 4, 5}},
		{"the first one", 0, 1, []byte{2, 3, 4, 5}},
		{"the last one", 4, 5, []byte{1, 2, 3, 4}},
		{"some between", 1, 3, []byte{1, 4, 5}},
		{"more than are behind", 1, 4, []byte{1, 5}},
		{"all at the end", 2, 5, []byte{1, 2}},
		{"all at the beginning", 0, 3, []byte{4, 5}},
		{"all", 0, 5, nil},
	} {
		a, _ := New(7)
		a.Insert(0, 1, 2, 3, 4, 5)
		err := a.Delete(c.from, c.to)
		holds(t, c.name, a, err, len(c.want), append(slices.Clone(c.want), make([]byte, 7-len(c.want))...))
	}
}

func TestDeleteRefused(t *testing.T) {
	b := bothWith(t, 6, 1, 2, 3)
	for _, i := range far() {
		for _, j := range slices.Concat(far(), []int{0, 1, 3, 4}) {
			if b.delete(i, j) != api.ErrRange || b.delete(j, i) != api.ErrRange {
				t.Errorf("Delete of %d and %d is taken", i, j)
			}
		}
	}
	for _, c := range [][2]int{{1, 0}, {3, 2}, {3, 0}, {0, 4}, {3, 4}, {4, 4}, {4, 3}, {6, 6}, {0, 6}, {-1, 0}, {-1, -1}, {0, -1}} {
		if err := b.delete(c[0], c[1]); err != api.ErrRange {
			t.Errorf("Delete(%d, %d): %d", c[0], c[1], err)
		}
	}
}

// Each from, to and at, also those that may not be, at each count of bytes in 7 cells.
func TestMoveEverywhere(t *testing.T) {
	for used := range 8 {
		for from := -1; from <= 8; from++ {
			for to := -1; to <= 8; to++ {
				for at := -1; at <= 8; at++ {
					b := bothWith(t, 7, row(used)...)
					err := b.move(from, to, at)
					ok := 0 <= from && from <= to && to <= used && 0 <= at && at <= used-(to-from)
					if ok != (err == api.OK) {
						t.Errorf("%d bytes, Move(%d, %d, %d): %d", used, from, to, at, err)
					}
				}
			}
		}
	}
}

func TestMovePlaces(t *testing.T) {
	for _, c := range []struct {
		name         string
		from, to, at int
		want         []byte
	}{
		{"to where they are", 1, 3, 1, []byte{1, 2, 3, 4, 5, 6, 0, 0}},
		{"on by one", 1, 3, 2, []byte{1, 4, 2, 3, 5, 6, 0, 0}},
		{"on by more than they are", 0, 1, 4, []byte{2, 3, 4, 5, 1, 6, 0, 0}},
		{"to the end", 1, 3, 4, []byte{1, 4, 5, 6, 2, 3, 0, 0}},
		{"back by one", 3, 5, 2, []byte{1, 2, 4, 5, 3, 6, 0, 0}},
		{"to the beginning", 3, 5, 0, []byte{4, 5, 1, 2, 3, 6, 0, 0}},
		{"the last ones to the beginning", 2, 6, 0, []byte{3, 4, 5, 6, 1, 2, 0, 0}},
		{"the first ones to the end", 0, 4, 2, []byte{5, 6, 1, 2, 3, 4, 0, 0}},
		{"half of them", 0, 3, 3, []byte{4, 5, 6, 1, 2, 3, 0, 0}},
		{"all", 0, 6, 0, []byte{1, 2, 3, 4, 5, 6, 0, 0}},
		{"nothing to the end", 2, 2, 6, []byte{1, 2, 3, 4, 5, 6, 0, 0}},
		{"nothing to the beginning", 6, 6, 0, []byte{1, 2, 3, 4, 5, 6, 0, 0}},
	} {
		a, _ := New(8)
		a.Insert(0, 1, 2, 3, 4, 5, 6)
		err := a.Move(c.from, c.to, c.at)
		holds(t, c.name, a, err, 6, c.want)
	}
}

func TestMoveRefused(t *testing.T) {
	b := bothWith(t, 6, 1, 2, 3)
	for _, i := range far() {
		for _, j := range slices.Concat(far(), []int{0, 1, 3, 4}) {
			for _, at := range []int{math.MinInt, -1, 0, 1, 3, math.MaxInt} {
				if b.move(i, j, at) != api.ErrRange || b.move(j, i, at) != api.ErrRange {
					t.Errorf("Move of %d and %d to %d is taken", i, j, at)
				}
			}
		}
		for _, c := range [][2]int{{0, 0}, {0, 1}, {1, 3}, {0, 3}, {3, 3}} {
			if err := b.move(c[0], c[1], i); err != api.ErrRange {
				t.Errorf("Move(%d, %d, %d): %d", c[0], c[1], i, err)
			}
		}
	}
	for _, c := range [][3]int{{0, 3, 1}, {0, 2, 2}, {1, 3, 3}, {0, 1, 3}, {1, 1, 4}, {2, 1, 0}, {3, 4, 0}, {4, 4, 0}} {
		if err := b.move(c[0], c[1], c[2]); err != api.ErrRange {
			t.Errorf("Move(%d, %d, %d): %d", c[0], c[1], c[2], err)
		}
	}
}

// A move and the one that takes it back leave all as it was.
func TestMoveThereAndBack(t *testing.T) {
	for _, n := range []int{64, 4096} {
		for _, x := range numbers(20) {
			b := bothWith(t, n, row(n)...)
			from := int(x>>8) & 4095 % n
			to := from + int(x>>24)&4095%(n-from+1)
			at := int(x>>40) & 4095 % (n - (to - from) + 1)
			if b.move(from, to, at) != api.OK || b.move(at, at+to-from, from) != api.OK {
				t.Errorf("Move(%d, %d, %d) and back", from, to, at)
			}
			if !bytes.Equal(b.m.bytes, row(n)) {
				t.Errorf("Move(%d, %d, %d) and back: %v", from, to, at, b.m.bytes)
			}
		}
	}
}

func TestMoveOfTheGreatest(t *testing.T) {
	b := bothWith(t, 4096, row(4096)...)
	for _, c := range [][3]int{{0, 4096, 0}, {0, 4095, 1}, {1, 4096, 0}, {0, 1, 4095}, {4095, 4096, 0}, {0, 2048, 2048}, {2048, 4096, 0}, {0, 2047, 2049}, {2047, 4096, 0}, {1000, 3000, 2096}, {4096, 4096, 0}} {
		if err := b.move(c[0], c[1], c[2]); err != api.OK {
			t.Errorf("Move(%d, %d, %d): %d", c[0], c[1], c[2], err)
		}
	}
}

func TestWipe(t *testing.T) {
	for _, n := range []int{1, 2, 9, 4096} {
		for _, used := range []int{0, 1, n / 2, n} {
			b := bothWith(t, n, row(used)...)
			b.wipe()
			b.wipe()
			if b.insert(0, row(n)...) != api.OK || b.insert(0, 1) != api.ErrFull {
				t.Errorf("%d cells are others behind a Wipe", n)
			}
			b.wipe()
		}
	}
}

func TestAtAndCell(t *testing.T) {
	b := bothWith(t, 6, 10, 0, 30)
	for _, c := range []struct {
		i       int
		at      byte
		atErr   api.Errno
		cell    byte
		cellErr api.Errno
		name    string
	}{
		{i: -1, atErr: api.ErrRange, cellErr: api.ErrRange, name: "ahead of all"},
		{i: 0, at: 10, cell: 10, name: "the first byte"},
		{i: 1, name: "a byte that is 0"},
		{i: 2, at: 30, cell: 30, name: "the last byte"},
		{i: 3, atErr: api.ErrRange, name: "the cell behind the bytes"},
		{i: 5, atErr: api.ErrRange, name: "the last cell"},
		{i: 6, atErr: api.ErrRange, cellErr: api.ErrRange, name: "behind all"},
	} {
		if got, err := b.a.At(c.i); got != c.at || err != c.atErr {
			t.Errorf("At(%d), %s: %d, %d", c.i, c.name, got, err)
		}
		if got, err := b.a.Cell(c.i); got != c.cell || err != c.cellErr {
			t.Errorf("Cell(%d), %s: %d, %d", c.i, c.name, got, err)
		}
	}
	for _, i := range far() {
		b.at("Insert", i)
		b.cell("Insert", i)
	}
}

func TestEachByteStays(t *testing.T) {
	b := newBoth(t, 256)
	for c := range 256 {
		b.insert(c, byte(c))
	}
	for c := range 256 {
		if got, err := b.a.At(c); got != byte(c) || err != api.OK {
			t.Errorf("At(%d): %d, %d", c, got, err)
		}
	}
}

func TestCopy(t *testing.T) {
	for used := range 7 {
		b := bothWith(t, 6, row(used)...)
		for n := range 10 {
			b.copy(n)
		}
		if n := b.a.Copy(nil); n != 0 {
			t.Errorf("Copy(nil): %d", n)
		}
	}
	b := bothWith(t, 4096, row(4096)...)
	for _, n := range []int{0, 1, 4095, 4096, 4097, 10000} {
		b.copy(n)
	}
}

// What is behind in the list stays, be it a byte of an earlier Copy or not.
func TestCopyLeavesTheRest(t *testing.T) {
	a, _ := New(6)
	a.Insert(0, 1, 2, 3)
	to := []byte{9, 8, 7, 6, 5}
	if n := a.Copy(to); n != 3 || !bytes.Equal(to, []byte{1, 2, 3, 6, 5}) {
		t.Errorf("%d, %v", n, to)
	}
	a.Delete(0, 2)
	if n := a.Copy(to); n != 1 || !bytes.Equal(to, []byte{3, 2, 3, 6, 5}) {
		t.Errorf("%d, %v", n, to)
	}
	a.Wipe()
	if n := a.Copy(to); n != 0 || !bytes.Equal(to, []byte{3, 2, 3, 6, 5}) {
		t.Errorf("%d, %v", n, to)
	}
}

// What Copy laid belongs to the caller: the arena doesn't see it changed, nor do later calls change it.
func TestCopyIsTheCallers(t *testing.T) {
	b := bothWith(t, 6, 1, 2, 3)
	to := make([]byte, 3)
	b.a.Copy(to)
	to[0], to[2] = 50, 60
	b.same("a change of the copy")
	b.move(0, 1, 2)
	b.wipe()
	if !bytes.Equal(to, []byte{50, 2, 60}) {
		t.Errorf("the arena changed the copy: %v", to)
	}
}

// Bytes that are 0 are bytes all the same; Zero asks for cells alone.
func TestZeroOfBytesThatAreZero(t *testing.T) {
	a, _ := New(4)
	a.Insert(0, 0, 0)
	if !a.Zero() || !a.Clean() || a.Len() != 2 {
		t.Errorf("Zero %v, Clean %v, Len %d", a.Zero(), a.Clean(), a.Len())
	}
	a.Insert(1, 5)
	if a.Zero() || !a.Clean() {
		t.Errorf("0 5 0: Zero %v, Clean %v", a.Zero(), a.Clean())
	}
}

// Zero sees each cell that isn't 0, and each of its bits.
func TestZeroSeesEachCell(t *testing.T) {
	for i := range 9 {
		for bit := range 8 {
			a, _ := New(9)
			a.Insert(0, make([]byte, 9)...)
			a.Delete(i, i+1)
			a.Insert(i, 1<<bit)
			if a.Zero() || !a.Clean() {
				t.Errorf("the cell %d is %d: Zero %v, Clean %v", i, 1<<bit, a.Zero(), a.Clean())
			}
		}
	}
}

// No call leaves a cell behind the bytes that isn't 0; so that Clean is worth asking, it must see one that is laid there past all calls.
func TestCleanLooks(t *testing.T) {
	for used := range 6 {
		for i := range 6 {
			a, _ := New(6)
			a.Insert(0, make([]byte, used)...)
			a.cells[i] = 1
			if a.Zero() || a.Clean() != (i < used) {
				t.Errorf("%d bytes, the cell %d is 1: Zero %v, Clean %v", used, i, a.Zero(), a.Clean())
			}
			a.Wipe()
			if !a.Zero() || !a.Clean() {
				t.Errorf("%d bytes, the cell %d was 1: it stays behind a Wipe", used, i)
			}
		}
	}
}

// steps are what may be done in turns; each takes a number for what it lays.
func steps() []func(b *both, n byte) {
	return []func(b *both, n byte){
		func(b *both, n byte) { b.insert(0, n) },
		func(b *both, n byte) { b.insert(1, n, n+100) },
		func(b *both, n byte) { b.insert(b.a.Len(), n, n+1, n+2) },
		func(b *both, n byte) { b.delete(0, 1) },
		func(b *both, n byte) { b.delete(b.a.Len()-2, b.a.Len()) },
		func(b *both, n byte) { b.delete(0, b.a.Len()) },
		func(b *both, n byte) { b.move(0, 2, 1) },
		func(b *both, n byte) { b.move(b.a.Len()-1, b.a.Len(), 0) },
		func(b *both, n byte) { b.wipe() },
	}
}

// All calls in turns, each row of up to 5 of them, each cell looked at behind each call.
func TestTurns(t *testing.T) {
	all := steps()
	rows := 1
	for length := range 6 {
		for row := range rows {
			b := newBoth(t, 6)
			for i, rest := 0, row; i < length; i, rest = i+1, rest/len(all) {
				all[rest%len(all)](b, byte(10*i+1))
			}
			b.copy(4)
		}
		rows *= len(all)
	}
}

// inserted, moved, deleted, wiped, inserted again.
func TestTurnsThatAreNamed(t *testing.T) {
	a, _ := New(6)
	err := a.Insert(0, 1, 2, 3, 4)
	holds(t, "inserted", a, err, 4, []byte{1, 2, 3, 4, 0, 0})
	err = a.Move(0, 1, 3)
	holds(t, "moved", a, err, 4, []byte{2, 3, 4, 1, 0, 0})
	err = a.Delete(1, 3)
	holds(t, "deleted", a, err, 2, []byte{2, 1, 0, 0, 0, 0})
	a.Wipe()
	holds(t, "wiped", a, api.OK, 0, []byte{0, 0, 0, 0, 0, 0})
	err = a.Insert(0, 7, 8, 9)
	holds(t, "inserted again", a, err, 3, []byte{7, 8, 9, 0, 0, 0})
	err = a.Insert(3, 10, 11, 12)
	holds(t, "and filled", a, err, 6, []byte{7, 8, 9, 10, 11, 12})
}

// turns makes calls by numbers, most of them such as may be.
func turns(b *both, count int) {
	for _, x := range numbers(count) {
		used := b.a.Len()
		i, j, k := int(x>>8)&0xffff%(used+2), int(x>>24)&0xffff%(used+2), int(x>>40)&0xffff%(used+2)
		if x>>63 == 0 && i > j {
			i, j = j, i
		}
		switch x & 15 {
		case 0, 1, 2, 3, 4:
			b.insert(i, row(j%9)...)
		case 5, 6:
			b.insert(i-1, row(k)...)
		case 7, 8:
			b.delete(i, min(j, i+4))
		case 9:
			b.delete(i, j)
		case 10, 11, 12, 13:
			b.move(i, j, k-1)
		case 14:
			b.copy(j)
		default:
			if x>>4&7 == 0 {
				b.wipe()
			}
		}
	}
}

func TestManyTurns(t *testing.T) {
	for _, n := range []int{1, 2, 3, 8, 50, 300} {
		turns(newBoth(t, n), 6000)
	}
	turns(newBoth(t, 4096), 300)
}

// The cells stay where they are, and no call makes others.
func TestCellsStayWhereTheyAre(t *testing.T) {
	b := newBoth(t, 50)
	first := &b.a.cells[0]
	turns(b, 3000)
	if &b.a.cells[0] != first || len(b.a.cells) != 50 || cap(b.a.cells) != 50 {
		t.Error("there are other cells")
	}
}

// Nothing of a secret may be left in memory that is no cell: no call takes any.
func TestNoCallTakesMemory(t *testing.T) {
	a, _ := New(4096)
	all, to := row(4096), make([]byte, 4096)
	n := testing.AllocsPerRun(10, func() {
		a.Insert(0, all[:2000]...)
		a.Insert(1000, all[:2096]...)
		a.Move(0, 2048, 2048)
		a.Move(100, 4000, 0)
		a.Move(0, 100, 3996)
		a.Delete(1, 2000)
		a.Copy(to)
		a.Wipe()
	})
	if n != 0 {
		t.Errorf("memory was taken %v times", n)
	}
}

func TestTwoArenasAreApart(t *testing.T) {
	x, y := newBoth(t, 40), newBoth(t, 40)
	if x.a == y.a {
		t.Fatal("New made none of its own")
	}
	for i := range 20 {
		x.insert(i/2, byte(i+1), byte(i+2))
		y.same("another arena's Insert")
		y.insert(0, byte(200+i))
		x.same("another arena's Insert")
	}
	x.move(0, 10, 20)
	x.delete(3, 30)
	y.same("another arena's Delete")
	y.wipe()
	x.same("another arena's Wipe")
}

func TestManyGoroutines(t *testing.T) {
	var wait sync.WaitGroup
	for g := range 8 {
		wait.Go(func() {
			a, _ := New(100)
			mine := bytes.Repeat([]byte{byte(g + 1)}, 10)
			for range 500 {
				if a.Insert(0, mine...) != api.OK || a.Move(0, 5, 5) != api.OK {
					t.Errorf("%d: refused", g)
				}
				got := make([]byte, 20)
				if n := a.Copy(got); n != 10 || !bytes.Equal(got[:10], mine) {
					t.Errorf("%d: %v", g, got)
				}
				a.Wipe()
			}
		})
	}
	wait.Wait()
}

// The first byte is how many cells there are; each 4 bytes behind it are a call and three numbers.
func FuzzAgainstModel(f *testing.F) {
	for call := range byte(8) {
		f.Add([]byte{9, 0, 0, 5, 0, call, 1, 3, 2, 0, 2, 4, 9, call, 0, 9, 0, 4, 0, 0, 0, 0, 0, 3, 7})
		f.Add([]byte{250, 0, 0, 200, 0, call, 255, 7, 1, call, 3, 150, 20, 5, 0, 0, 0})
	}
	f.Fuzz(func(t *testing.T, data []byte) {
		if len(data) == 0 {
			return
		}
		b := newBoth(t, int(data[0])+1)
		for data = data[1:]; len(data) >= 4; data = data[4:] {
			i, j, k := int(int8(data[1])), int(data[2]), int(data[3])
			switch data[0] & 7 {
			case 0, 1, 2:
				b.insert(i, row(j)...)
			case 3:
				b.delete(i, j)
			case 4, 5, 6:
				b.move(i, j, k)
			default:
				b.copy(j)
				b.wipe()
			}
		}
	})
}
