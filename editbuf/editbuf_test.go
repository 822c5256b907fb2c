package editbuf

import (
	"bytes"
	"math"
	"slices"
	"strings"
	"sync"
	"testing"

	"whisperer/api"
	"whisperer/arena"
)

// The model: two lists of characters, those ahead of the place and those behind it, and how many bytes have room.

const greatest = 1114111

type model struct {
	ahead, behind []rune
	cells         int
}

func (m *model) text() string {
	return string(m.ahead) + string(m.behind)
}

// modelShown asks whether a number is a character that may be shown: one that has bytes of its own, and is no control.
func modelShown(c int) bool {
	switch {
	case c < 32, 127 <= c && c <= 159, 0xd800 <= c && c <= 0xdfff:
		return false
	}
	return c <= greatest
}

func (m *model) put(c int) api.Errno {
	if !modelShown(c) {
		return api.ErrArg
	}
	if len(m.text())+len(string(rune(c))) > m.cells {
		return api.ErrFull
	}
	m.ahead = append(m.ahead, rune(c))
	return api.OK
}

func (m *model) insert(s string) api.Errno {
	l := []rune(s)
	if string(l) != s || slices.ContainsFunc(l, func(c rune) bool { return !modelShown(int(c)) }) {
		return api.ErrForm
	}
	if len(m.text())+len(s) > m.cells {
		return api.ErrFull
	}
	m.ahead = append(m.ahead, l...)
	return api.OK
}

func (m *model) do(k api.Key) (bool, api.Errno) {
	if k.Kind == 0 {
		err := m.put(k.C)
		return err == api.OK, err
	}
	ahead, text := string(m.ahead), m.text()
	some, more := len(m.ahead) > 0, len(m.behind) > 0
	switch {
	case k.Kind == 2 && some:
		m.ahead = m.ahead[:len(m.ahead)-1]
	case k.Kind == 3 && more:
		m.behind = m.behind[1:]
	case k.Kind == 4 && some:
		last := m.ahead[len(m.ahead)-1]
		m.ahead, m.behind = m.ahead[:len(m.ahead)-1], append([]rune{last}, m.behind...)
	case k.Kind == 5 && more:
		m.ahead, m.behind = append(m.ahead, m.behind[0]), m.behind[1:]
	case k.Kind == 6:
		m.ahead, m.behind = nil, []rune(text)
	case k.Kind == 7:
		m.ahead, m.behind = []rune(text), nil
	case k.Kind == 8:
		m.ahead = nil
	case k.Kind == 9:
		m.behind = nil
	}
	return ahead != string(m.ahead) || text != m.text(), api.OK
}

// both are a buffer, its arena, and the model; each call is made of the two, must answer the same, and must leave the same.
type both struct {
	t *testing.T
	a *arena.Arena
	b *Buffer
	m model
}

func newBoth(t *testing.T, cells int) *both {
	t.Helper()
	a, err := arena.New(cells)
	if err != api.OK {
		t.Fatalf("an arena of %d cells: %d", cells, err)
	}
	b, err := New(a)
	if err != api.OK || b == nil {
		t.Fatalf("New with %d cells: %v, %d", cells, b, err)
	}
	both := &both{t: t, a: a, b: b, m: model{cells: cells}}
	both.same("New")
	return both
}

// bothWith have some characters ahead of the place, and some behind it.
func bothWith(t *testing.T, cells int, ahead, behind string) *both {
	t.Helper()
	b := newBoth(t, cells)
	b.insert(behind)
	b.key(api.Home)
	b.insert(ahead)
	b.holds(ahead, behind)
	return b
}

func (b *both) put(c int) api.Errno {
	b.t.Helper()
	was := b.m.text()
	got, want := b.b.Put(c), b.m.put(c)
	if got != want {
		b.t.Fatalf("%q, Put(%d): %d, want %d", was, c, got, want)
	}
	b.same("Put")
	return got
}

func (b *both) insert(s string) api.Errno {
	b.t.Helper()
	was, list := b.m.text(), []byte(s)
	got, want := b.b.Insert(list...), b.m.insert(s)
	if got != want {
		b.t.Fatalf("%q, Insert(%.200q): %d, want %d", was, s, got, want)
	}
	if string(list) != s {
		b.t.Fatalf("Insert(%.200q) changed its bytes to %.200q", s, list)
	}
	b.same("Insert")
	return got
}

func (b *both) do(k api.Key) (bool, api.Errno) {
	b.t.Helper()
	ahead, behind := string(b.m.ahead), string(b.m.behind)
	got, err := b.b.Do(k)
	want, wantErr := b.m.do(k)
	if got != want || err != wantErr {
		b.t.Fatalf("%q, %q, Do(%v): %v, %d, want %v, %d", ahead, behind, k, got, err, want, wantErr)
	}
	b.same("Do")
	return got, err
}

// key does what a kind says that has no character.
func (b *both) key(kind int) bool {
	b.t.Helper()
	changed, err := b.do(api.Key{Kind: kind})
	if err != api.OK {
		b.t.Fatalf("a key of the kind %d: %d", kind, err)
	}
	return changed
}

func (b *both) clear() {
	b.t.Helper()
	b.b.Clear()
	b.m.ahead, b.m.behind = nil, nil
	b.same("Clear")
	if !b.a.Zero() {
		b.t.Fatal("behind a Clear something is in a cell")
	}
}

// same looks at what the buffer tells of itself, and at the cells.
func (b *both) same(call string) {
	b.t.Helper()
	text := b.m.text()
	if b.b.Count() != len(b.m.ahead)+len(b.m.behind) || b.b.At() != len(b.m.ahead) || b.b.Len() != len(text) {
		b.t.Fatalf("behind %s: Count %d, At %d, Len %d, want those of %q, %q", call, b.b.Count(), b.b.At(), b.b.Len(), string(b.m.ahead), string(b.m.behind))
	}
	if b.a.Len() != len(text) || b.a.Cap() != b.m.cells || !b.a.Clean() || text == "" && !b.a.Zero() {
		b.t.Fatalf("behind %s: the arena's Len %d, Cap %d, Clean %v, want those of %q", call, b.a.Len(), b.a.Cap(), b.a.Clean(), text)
	}
	for i := range min(b.m.cells, len(text)+12) {
		want := byte(0)
		if i < len(text) {
			want = text[i]
		}
		if got, err := b.a.Cell(i); got != want || err != api.OK {
			b.t.Fatalf("behind %s: the cell %d: %d, %d, want %d of %.200q", call, i, got, err, want, text)
		}
	}
	to := make([]byte, len(text)+1)
	if n := b.b.Copy(to); n != len(text) || string(to[:n]) != text || to[n] != 0 {
		b.t.Fatalf("behind %s: Copy %d, %.200q, want %.200q", call, n, to, text)
	}
}

// holds tells by hand what there is.
func (b *both) holds(ahead, behind string) {
	b.t.Helper()
	to := make([]byte, len(ahead)+len(behind)+9)
	n := b.b.Copy(to)
	if string(to[:n]) != ahead+behind || b.b.At() != len([]rune(ahead)) || b.b.Count() != len([]rune(ahead+behind)) || b.b.Len() != len(ahead+behind) {
		b.t.Fatalf("%q, At %d, Count %d, Len %d, want %q, %q", to[:n], b.b.At(), b.b.Count(), b.b.Len(), ahead, behind)
	}
}

// wides are characters of one, two, three and four bytes, on both sides of the borders.
func wides() []rune {
	return []rune{32, 'a', 126, 160, 0xe4, 0x7ff, 0x800, 0x20ac, 0xd7ff, 0xe000, 0xfffd, 0xffff, 0x10000, 0x1f600, greatest}
}

// fewWides are one of each.
func fewWides() []rune {
	return []rune{'a', 0xe4, 0x20ac, 0x1f600}
}

// contents are all texts of at most three characters of each width.
func contents() []string {
	l, last := []string{""}, []string{""}
	for range 3 {
		var next []string
		for _, s := range last {
			for _, c := range fewWides() {
				next = append(next, s+string(c))
			}
		}
		l, last = append(l, next...), next
	}
	return l
}

// split tells a text's parts ahead of and behind each place that it has.
func split(s string) [][2]string {
	l := []rune(s)
	var all [][2]string
	for i := range len(l) + 1 {
		all = append(all, [2]string{string(l[:i]), string(l[i:])})
	}
	return all
}

// noCharacters are numbers that are none, or may not be shown.
func noCharacters() []int {
	l := []int{-1, -2, -32, -97, -128, -65533, math.MinInt, math.MinInt + 97, math.MinInt32, math.MaxInt32, math.MaxUint32, math.MaxInt, 1<<32 + 97, 1<<33 + 0x20ac, 1<<31 + 97, 0xd800, 0xdabc, 0xdbff, 0xdc00, 0xdfff, greatest + 1, greatest + 2, 1 << 21, 127}
	for c := range 32 {
		l = append(l, c, 128+c)
	}
	return l
}

// otherKinds are the kinds that do nothing, and some that are none.
func otherKinds() []int {
	return []int{api.Enter, api.Redraw, api.Cancel, api.Eof, api.PasteStart, api.PasteEnd, api.Ignored, 16, 17, 99, -1, -2, -9, 256, 258, 1<<32 + 2, math.MinInt, math.MaxInt}
}

// keyKinds are those that do something.
func keyKinds() []int {
	return []int{api.Back, api.Delete, api.Left, api.Right, api.Home, api.Last, api.KillStart, api.KillEnd}
}

// numbers are n of 64 bits, of all sorts, by a rule.
func numbers(n int) []uint64 {
	l := make([]uint64, n)
	x := uint64(1)
	for i := range l {
		x = x*6364136223846793005 + 1442695040888963407
		l[i] = x ^ x>>29
	}
	return l
}

func TestExamples(t *testing.T) {
	b := newBoth(t, 64)
	b.put('a')
	b.put('b')
	b.key(api.Left)
	b.put('c')
	b.holds("ac", "b")
	b.key(api.Back)
	b.holds("a", "b")
	b.key(api.KillEnd)
	b.holds("a", "")
	// Of the whole.
	b = newBoth(t, 64)
	b.do(api.Key{C: 'a'})
	b.key(api.Left)
	b.do(api.Key{C: 'b'})
	b.key(api.Enter)
	b.holds("b", "a")
}

// P11.1: New.

func TestNewOfNoArena(t *testing.T) {
	if b, err := New(nil); b != nil || err != api.ErrNil {
		t.Errorf("New(nil): %v, %d", b, err)
	}
}

// An arena that isn't empty is Wiped, and none of its bytes is a character.
func TestNewOfAnArenaThatIsntEmpty(t *testing.T) {
	for _, was := range []string{"a", "\u00e4", "\xff\xfe", "\x00\x01", "abc\u20ac", strings.Repeat("x", 9)} {
		a, _ := arena.New(9)
		a.Insert(0, []byte(was)...)
		b, err := New(a)
		if err != api.OK || !a.Zero() || a.Len() != 0 || b.Count() != 0 || b.At() != 0 || b.Len() != 0 {
			t.Fatalf("an arena of %q: %d, Len %d, Count %d, At %d", was, err, a.Len(), b.Count(), b.At())
		}
		both := &both{t: t, a: a, b: b, m: model{cells: 9}}
		both.same("New")
		for _, kind := range keyKinds() {
			if both.key(kind) {
				t.Errorf("an arena of %q: the kind %d changed something", was, kind)
			}
		}
		both.insert("\u20ac\u20ac\u20ac")
		both.holds("\u20ac\u20ac\u20ac", "")
	}
}

// Another buffer of an arena begins without what the first one had.
func TestNewOfAnArenaOnceMore(t *testing.T) {
	b := bothWith(t, 9, "ab", "\u20ac")
	next, err := New(b.a)
	if err != api.OK || next.Count() != 0 || next.At() != 0 || next.Len() != 0 || !b.a.Zero() {
		t.Fatalf("once more: %d, Count %d, At %d, Len %d", err, next.Count(), next.At(), next.Len())
	}
	both := &both{t: t, a: b.a, b: next, m: model{cells: 9}}
	both.put('x')
	both.key(api.Left)
	both.put('y')
	both.holds("y", "x")
}

func TestNewOfAllSizes(t *testing.T) {
	for _, cells := range []int{1, 2, 3, 4, 5, 36, 1024, 4095, 4096} {
		b := newBoth(t, cells)
		for _, c := range wides() {
			b.put(int(c))
			b.key(api.Left)
		}
		b.insert("abc")
		b.key(api.Back)
		b.key(api.KillEnd)
		b.clear()
	}
}

func TestNilBuffer(t *testing.T) {
	var b *Buffer
	for _, c := range append(noCharacters(), 'a', 0x20ac, greatest) {
		if err := b.Put(c); err != api.ErrNil {
			t.Errorf("Put(%d): %d", c, err)
		}
		for _, kind := range slices.Concat([]int{api.Rune}, keyKinds(), otherKinds()) {
			if ok, err := b.Do(api.Key{Kind: kind, C: c}); ok || err != api.ErrNil {
				t.Errorf("Do(%d, %d): %v, %d", kind, c, ok, err)
			}
		}
	}
	for _, s := range []string{"", "a", "\u20ac", "\xff", "\n", strings.Repeat("x", 5000)} {
		list := []byte(s)
		if err := b.Insert(list...); err != api.ErrNil || string(list) != s {
			t.Errorf("Insert(%.20q): %d, %.20q", s, err, list)
		}
	}
	if err := b.Insert(); err != api.ErrNil {
		t.Errorf("Insert(): %d", err)
	}
	b.Clear()
	to := []byte("xyz")
	if b.Count() != 0 || b.At() != 0 || b.Len() != 0 || b.Copy(to) != 0 || b.Copy(nil) != 0 || string(to) != "xyz" {
		t.Errorf("Count %d, At %d, Len %d, Copy %d, %q", b.Count(), b.At(), b.Len(), b.Copy(to), to)
	}
}

// P11.1: Put.

// A character of each width at the beginning, between two others, and at the end.
func TestPutEverywhere(t *testing.T) {
	for _, s := range contents() {
		for _, p := range split(s) {
			for _, c := range wides() {
				b := bothWith(t, 16, p[0], p[1])
				if err := b.put(int(c)); err != api.OK {
					t.Fatalf("%q: Put(%d): %d", p, c, err)
				}
				b.holds(p[0]+string(c), p[1])
			}
		}
	}
}

func TestPutByHand(t *testing.T) {
	b := newBoth(t, 12)
	for _, x := range []struct {
		c, at int
		want  []byte
	}{
		{'b', 0, []byte{98}},
		{0xe4, 0, []byte{195, 164, 98}},
		{0x20ac, 1, []byte{195, 164, 226, 130, 172, 98}},
		{0x1f600, 3, []byte{195, 164, 226, 130, 172, 98, 240, 159, 152, 128}},
		{'~', 0, []byte{126, 195, 164, 226, 130, 172, 98, 240, 159, 152, 128}},
		{' ', 3, []byte{126, 195, 164, 226, 130, 172, 32, 98, 240, 159, 152, 128}},
	} {
		b.key(api.Home)
		for range x.at {
			b.key(api.Right)
		}
		b.put(x.c)
		got := make([]byte, 12)
		if n := b.b.Copy(got); !bytes.Equal(got[:n], x.want) || b.b.At() != x.at+1 {
			t.Fatalf("%d: %v, At %d, want %v, %d", x.c, got[:n], b.b.At(), x.want, x.at+1)
		}
		for i := range 12 {
			want := byte(0)
			if i < len(x.want) {
				want = x.want[i]
			}
			if c, err := b.a.Cell(i); c != want || err != api.OK {
				t.Fatalf("%d: the cell %d: %d, %d, want %d", x.c, i, c, err, want)
			}
		}
	}
}

// What is no character, or may not be shown, is refused, also where there is no room, and changes nothing.
func TestPutOfNoCharacter(t *testing.T) {
	for _, c := range noCharacters() {
		for _, x := range [][2]string{{"", ""}, {"a\u00e4", "\u20acb"}, {"12345678", ""}, {"1234", "5678"}} {
			b := bothWith(t, 8, x[0], x[1])
			if err := b.put(c); err != api.ErrArg {
				t.Errorf("%q: Put(%d): %d", x, c, err)
			}
			if ok, err := b.do(api.Key{Kind: api.Rune, C: c}); ok || err != api.ErrArg {
				t.Errorf("%q: the Rune of %d: %v, %d", x, c, ok, err)
			}
			b.holds(x[0], x[1])
		}
	}
}

func TestPutOfAllNumbers(t *testing.T) {
	a, _ := arena.New(8)
	b, _ := New(a)
	to := make([]byte, 8)
	for c := -2000; c < greatest+2000; c++ {
		want, text := api.ErrArg, ""
		if modelShown(c) {
			want, text = api.OK, string(rune(c))
		}
		err := b.Put(c)
		n := b.Copy(to)
		if err != want || string(to[:n]) != text || b.At() != b.Count() || b.Count() != len([]rune(text)) {
			t.Fatalf("Put(%d): %d, %q, At %d, Count %d", c, err, to[:n], b.At(), b.Count())
		}
		b.Clear()
	}
}

// Room for just as many bytes as a character has, and for one, two and three less.
func TestPutWithLittleRoom(t *testing.T) {
	for _, c := range wides() {
		n := len(string(c))
		for filled := range 9 {
			for room := range 6 {
				if filled+room == 0 {
					continue
				}
				for at := range filled + 1 {
					b := bothWith(t, filled+room, strings.Repeat("x", at), strings.Repeat("y", filled-at))
					want := api.OK
					if room < n {
						want = api.ErrFull
					}
					if err := b.put(int(c)); err != want {
						t.Fatalf("%d bytes, room for %d, Put(%d): %d, want %d", filled, room, c, err, want)
					}
				}
			}
		}
	}
}

// Where there was no room there is some behind a key that takes as much.
func TestPutWhenThereIsRoomAgain(t *testing.T) {
	b := bothWith(t, 7, "\u20ac", "\U0001f600")
	for _, c := range wides() {
		if err := b.put(int(c)); err != api.ErrFull {
			t.Fatalf("Put(%d): %d", c, err)
		}
	}
	b.key(api.Back)
	if err := b.put(0x1f600); err != api.ErrFull {
		t.Errorf("room for 3, 4 bytes: %d", err)
	}
	if err := b.put(0x20ac); err != api.OK {
		t.Errorf("room for 3, 3 bytes: %d", err)
	}
	b.key(api.Delete)
	if err := b.put(0x1f600); err != api.OK {
		t.Errorf("room for 4, 4 bytes: %d", err)
	}
	b.holds("\u20ac\U0001f600", "")
}

// P11.1: Insert.

func TestInsertOfNoText(t *testing.T) {
	for _, x := range [][2]string{{"", ""}, {"a", "b"}, {"\u20ac", ""}, {"", "\u20ac"}, {"12", "34567"}} {
		b := bothWith(t, 7, x[0], x[1])
		for _, none := range [][]byte{nil, {}, []byte("\xff")[:0], []byte("x")[1:]} {
			if err := b.b.Insert(none...); err != api.OK {
				t.Errorf("%q: Insert of no text: %d", x, err)
			}
		}
		if err := b.b.Insert(); err != api.OK {
			t.Errorf("%q: Insert of nothing: %d", x, err)
		}
		b.same("Insert of no text")
		b.holds(x[0], x[1])
	}
}

func TestInsertEverywhere(t *testing.T) {
	for _, s := range contents() {
		for _, p := range split(s) {
			for _, text := range append(contents()[:21], "\u20ac\u00e4a\U0001f600", "   ", "\ufffd", "\U0010ffff~\u00a0") {
				b := bothWith(t, 24, p[0], p[1])
				if err := b.insert(text); err != api.OK {
					t.Fatalf("%q: Insert(%q): %d", p, text, err)
				}
				b.holds(p[0]+text, p[1])
			}
		}
	}
}

// wrongs are bytes that aren't those of characters that may be shown.
func wrongs() []string {
	l := []string{"\xff", "\xfe", "\x80", "\xbf", "\xc0\x80", "\xc1\xbf", "\xc3", "\xe2", "\xe2\x82", "\xf0", "\xf0\x9f", "\xf0\x9f\x98", "\xe0\x80\x80", "\xe0\x9f\xbf", "\xed\xa0\x80", "\xed\xbf\xbf", "\xf0\x8f\xbf\xbf", "\xf4\x90\x80\x80", "\xf5\x80\x80\x80", "\xe2\x28\xa1", "\x1b[C"}
	for _, c := range noCharacters() {
		if 0 <= c && c <= 159 {
			l = append(l, string(rune(c)))
		}
	}
	return l
}

// A text that isn't right, wherever it is wrong, is refused whole.
func TestInsertOfWrongTexts(t *testing.T) {
	for _, wrong := range wrongs() {
		for _, text := range []string{wrong, "a" + wrong, wrong + "a", "\u20ac" + wrong, wrong + "\u20ac", "ab\u00e4" + wrong + "\U0001f600cd", wrong + wrong, "\u00e4" + wrong + "\u00e4" + wrong} {
			for _, x := range [][2]string{{"", ""}, {"a\u00e4", "\u20acb"}} {
				b := bothWith(t, 64, x[0], x[1])
				if err := b.insert(text); err != api.ErrForm {
					t.Errorf("%q: Insert(%q): %d", x, text, err)
				}
				b.holds(x[0], x[1])
			}
		}
	}
}

// Each byte by itself, ahead of a letter, and behind one.
func TestInsertOfEachByte(t *testing.T) {
	for c := range 256 {
		want := api.ErrForm
		if 32 <= c && c <= 126 {
			want = api.OK
		}
		for _, text := range []string{string([]byte{byte(c)}), string([]byte{byte(c), 'a'}), string([]byte{'a', byte(c)}), "a" + string([]byte{byte(c)}) + "a"} {
			b := bothWith(t, 8, "x", "y")
			if err := b.insert(text); err != want {
				t.Errorf("Insert(%q): %d, want %d", text, err, want)
			}
		}
	}
}

// A text that is wrong, and has no room: it is wrong.
func TestInsertOfWrongTextsWithoutRoom(t *testing.T) {
	for _, wrong := range wrongs() {
		for _, text := range []string{wrong, "ab" + wrong, wrong + "ab", strings.Repeat("a", 5000) + wrong, wrong + strings.Repeat("a", 5000)} {
			b := bothWith(t, 4, "12", "34")
			if err := b.insert(text); err != api.ErrForm {
				t.Errorf("Insert(%.20q): %d", text, err)
			}
			b.holds("12", "34")
		}
	}
}

// Room for just as many bytes as a text has, and for one less: nothing of it is laid then.
func TestInsertWithLittleRoom(t *testing.T) {
	for _, text := range []string{"a", "ab", "\u00e4", "a\u20ac", "\u20aca", "\U0001f600", "\U0001f600\u00e4", "abcdefgh"} {
		for _, x := range [][2]string{{"", ""}, {"a", ""}, {"", "a"}, {"\u20ac", "\u00e4"}, {"xyz", "\U0001f600"}} {
			n := len(x[0]+x[1]) + len(text)
			b := bothWith(t, n, x[0], x[1])
			if err := b.insert(text); err != api.OK {
				t.Errorf("%q: Insert(%q): %d", x, text, err)
			}
			b.holds(x[0]+text, x[1])
			if err := b.insert("z"); err != api.ErrFull {
				t.Errorf("%q: one more: %d", x, err)
			}
			if err := b.insert(""); err != api.OK {
				t.Errorf("%q: no text, without room: %d", x, err)
			}
			if n == 1 {
				continue
			}
			b = bothWith(t, n-1, x[0], x[1])
			if err := b.insert(text); err != api.ErrFull {
				t.Errorf("%q: Insert(%q): %d", x, text, err)
			}
			b.holds(x[0], x[1])
		}
	}
}

// The greatest arena, filled to the last cell, in one text and character by character.
func TestTheGreatestArena(t *testing.T) {
	for _, c := range fewWides() {
		whole := strings.Repeat(string(c), 4096/len(string(c)))
		b := newBoth(t, 4096)
		if err := b.insert(whole + "~~~~"); err != api.ErrFull {
			t.Errorf("one more of %q: %d", c, err)
		}
		if err := b.insert(whole); err != api.OK {
			t.Errorf("as many of %q as there may be: %d", c, err)
		}
		if err := b.put(int(c)); err != api.ErrFull {
			t.Errorf("one more of %q: %d", c, err)
		}
		b.key(api.Left)
		b.key(api.Back)
		b.key(api.Home)
		b.key(api.Delete)
		b.insert(string(c))
		b.key(api.Last)
		b.key(api.KillStart)
		if !b.a.Zero() {
			t.Errorf("of %q something is left", c)
		}
		for b.b.Put(int(c)) == api.OK {
		}
		if b.b.Len() != len(whole) || b.b.At() != len([]rune(whole)) {
			t.Errorf("%q one by one: Len %d, At %d", c, b.b.Len(), b.b.At())
		}
	}
}

// What is handed in isn't changed, and may be changed then; what lies behind its length plays no part.
func TestWhatIsHandedIn(t *testing.T) {
	memory := []byte("a\u20acb\xff\n")
	b := newBoth(t, 16)
	if err := b.b.Insert(memory[:5]...); err != api.OK || string(memory) != "a\u20acb\xff\n" {
		t.Fatalf("Insert: %d, %q", err, memory)
	}
	copy(memory, "xxxxxxx")
	b.m.insert("a\u20acb")
	b.same("a change of what was handed in")
	if err := b.b.Insert(memory[:2]...); err != api.OK || string(memory) != "xxxxxxx" {
		t.Fatalf("Insert: %d, %q", err, memory)
	}
	b.holds("a\u20acbxx", "")
}

// P11.2: Do.

// Each kind at each place of texts of each width, and whether it changed something, by hand.
func TestDoByHand(t *testing.T) {
	for _, x := range []struct {
		ahead, behind string
		kind          int
		changed       bool
		then, rest    string
	}{
		{"", "", api.Back, false, "", ""},
		{"", "", api.Delete, false, "", ""},
		{"", "", api.Left, false, "", ""},
		{"", "", api.Right, false, "", ""},
		{"", "", api.Home, false, "", ""},
		{"", "", api.Last, false, "", ""},
		{"", "", api.KillStart, false, "", ""},
		{"", "", api.KillEnd, false, "", ""},
		{"", "a\u00e4b", api.Back, false, "", "a\u00e4b"},
		{"", "a\u00e4b", api.Delete, true, "", "\u00e4b"},
		{"", "\u00e4b", api.Delete, true, "", "b"},
		{"", "a\u00e4b", api.Left, false, "", "a\u00e4b"},
		{"", "\u20aca", api.Right, true, "\u20ac", "a"},
		{"", "\u20aca", api.Home, false, "", "\u20aca"},
		{"", "\u20aca", api.Last, true, "\u20aca", ""},
		{"", "\u20aca", api.KillStart, false, "", "\u20aca"},
		{"", "\u20aca", api.KillEnd, true, "", ""},
		{"a\u20ac", "", api.Back, true, "a", ""},
		{"\u20aca", "", api.Back, true, "\u20ac", ""},
		{"a\u20ac", "", api.Delete, false, "a\u20ac", ""},
		{"a\u20ac", "", api.Left, true, "a", "\u20ac"},
		{"a\u20ac", "", api.Right, false, "a\u20ac", ""},
		{"a\u20ac", "", api.Home, true, "", "a\u20ac"},
		{"a\u20ac", "", api.Last, false, "a\u20ac", ""},
		{"a\u20ac", "", api.KillStart, true, "", ""},
		{"a\u20ac", "", api.KillEnd, false, "a\u20ac", ""},
		{"x\u00e4", "\U0001f600y", api.Back, true, "x", "\U0001f600y"},
		{"x\u00e4", "\U0001f600y", api.Delete, true, "x\u00e4", "y"},
		{"x\u00e4", "\U0001f600y", api.Left, true, "x", "\u00e4\U0001f600y"},
		{"x\u00e4", "\U0001f600y", api.Right, true, "x\u00e4\U0001f600", "y"},
		{"x\u00e4", "\U0001f600y", api.Home, true, "", "x\u00e4\U0001f600y"},
		{"x\u00e4", "\U0001f600y", api.Last, true, "x\u00e4\U0001f600y", ""},
		{"x\u00e4", "\U0001f600y", api.KillStart, true, "", "\U0001f600y"},
		{"x\u00e4", "\U0001f600y", api.KillEnd, true, "x\u00e4", ""},
		// The characters that are taken are those that stand beside them, too.
		{"aa", "a", api.Back, true, "a", "a"},
		{"aa", "a", api.Delete, true, "aa", ""},
		{"\u00e4", "\u00e4\u00e4", api.Back, true, "", "\u00e4\u00e4"},
		{"\u00e4", "\u00e4\u00e4", api.Delete, true, "\u00e4", "\u00e4"},
		{"aa", "aa", api.KillStart, true, "", "aa"},
		{"aa", "aa", api.KillEnd, true, "aa", ""},
	} {
		b := bothWith(t, 16, x.ahead, x.behind)
		if got := b.key(x.kind); got != x.changed {
			t.Errorf("%q, %q, the kind %d: %v", x.ahead, x.behind, x.kind, got)
		}
		b.holds(x.then, x.rest)
	}
}

// Each kind, with each number beside it, at each place of all texts of a few characters.
func TestDoEverywhere(t *testing.T) {
	for _, s := range contents() {
		for _, p := range split(s) {
			for _, kind := range keyKinds() {
				for _, c := range []int{0, 'x', -1, math.MaxInt} {
					b := bothWith(t, 13, p[0], p[1])
					b.do(api.Key{Kind: kind, C: c})
					b.do(api.Key{Kind: kind, C: c})
					b.put('x')
				}
			}
		}
	}
}

// All other kinds, also those that are none, do nothing, whatever their number.
func TestDoOfOtherKinds(t *testing.T) {
	for _, kind := range otherKinds() {
		for _, s := range []string{"", "a", "\u20ac\u00e4", "a\U0001f600b"} {
			for _, p := range split(s) {
				for _, c := range []int{0, 'x', 7, -1, math.MinInt, math.MaxInt} {
					b := bothWith(t, 13, p[0], p[1])
					if ok, err := b.do(api.Key{Kind: kind, C: c}); ok || err != api.OK {
						t.Errorf("%q, %q, the kind %d: %v, %d", p[0], p[1], kind, ok, err)
					}
					b.holds(p[0], p[1])
				}
			}
		}
	}
}

// A Rune is laid as Put lays it, and tells Put's error; it changes always.
func TestDoOfRunes(t *testing.T) {
	for _, c := range wides() {
		for _, s := range contents()[:21] {
			for _, p := range split(s) {
				n := len(s) + len(string(c))
				b := bothWith(t, n, p[0], p[1])
				if ok, err := b.do(api.Key{Kind: api.Rune, C: int(c)}); !ok || err != api.OK {
					t.Errorf("%q, %q, the Rune of %d: %v, %d", p[0], p[1], c, ok, err)
				}
				b.holds(p[0]+string(c), p[1])
				if ok, err := b.do(api.Key{Kind: api.Rune, C: int(c)}); ok || err != api.ErrFull {
					t.Errorf("%q, %q, one more of %d: %v, %d", p[0], p[1], c, ok, err)
				}
				if ok, err := b.do(api.Key{Kind: api.Rune, C: 7}); ok || err != api.ErrArg {
					t.Errorf("%q, %q, the Rune of 7: %v, %d", p[0], p[1], ok, err)
				}
				b.holds(p[0]+string(c), p[1])
			}
		}
	}
}

// A place goes from one end to the other one, character by character, and no further.
func TestToBothEnds(t *testing.T) {
	text := "a\u00e4\u20ac\U0001f600" + string(wides())
	l := []rune(text)
	b := newBoth(t, 100)
	b.insert(text)
	for i := len(l); i > 0; i-- {
		if !b.key(api.Left) || b.b.At() != i-1 {
			t.Fatalf("Left at %d: At %d", i, b.b.At())
		}
	}
	if b.key(api.Left) || b.b.At() != 0 {
		t.Errorf("Left at the beginning: At %d", b.b.At())
	}
	for i := range l {
		if !b.key(api.Right) || b.b.At() != i+1 {
			t.Fatalf("Right at %d: At %d", i, b.b.At())
		}
	}
	if b.key(api.Right) || b.b.At() != len(l) {
		t.Errorf("Right at the end: At %d", b.b.At())
	}
	for i := len(l); i > 0; i-- {
		if !b.key(api.Back) || b.b.Count() != i-1 {
			t.Fatalf("Back at %d: Count %d", i, b.b.Count())
		}
	}
	if b.key(api.Back) || !b.a.Zero() {
		t.Error("Back of nothing")
	}
	b.insert(text)
	b.key(api.Home)
	for i := len(l); i > 0; i-- {
		if !b.key(api.Delete) || b.b.Count() != i-1 || b.b.At() != 0 {
			t.Fatalf("Delete, %d left: Count %d, At %d", i, b.b.Count(), b.b.At())
		}
	}
	if b.key(api.Delete) || !b.a.Zero() {
		t.Error("Delete of nothing")
	}
}

// P11.2: Clear.

func TestClear(t *testing.T) {
	for _, s := range contents() {
		for _, p := range split(s) {
			b := bothWith(t, 12, p[0], p[1])
			b.clear()
			if b.b.Count() != 0 || b.b.At() != 0 || b.b.Len() != 0 || !b.a.Zero() || b.a.Len() != 0 {
				t.Errorf("%q, Clear: Count %d, At %d, Len %d", p, b.b.Count(), b.b.At(), b.b.Len())
			}
			b.clear()
			for _, kind := range keyKinds() {
				if b.key(kind) {
					t.Errorf("%q, Clear, the kind %d changed something", p, kind)
				}
			}
			b.put(0x20ac)
			b.key(api.Left)
			b.insert("x\u00e4")
			b.holds("x\u00e4", "\u20ac")
			if err := b.insert("1234567"); err != api.ErrFull {
				t.Errorf("%q, Clear, 6 bytes of 12, 7 more: %d", p, err)
			}
			if err := b.insert("123456"); err != api.OK {
				t.Errorf("%q, Clear, 6 bytes of 12, 6 more: %d", p, err)
			}
		}
	}
}

// P11.3.

func TestCountsByHand(t *testing.T) {
	for _, x := range []struct {
		ahead, behind  string
		count, at, len int
	}{
		{"", "", 0, 0, 0}, {"a", "", 1, 1, 1}, {"", "a", 1, 0, 1}, {"\u00e4", "\u20ac", 2, 1, 5}, {"\U0001f600", "", 1, 1, 4}, {"", "\U0001f600", 1, 0, 4}, {"ab\u20ac", "\U0010ffffc", 5, 3, 10}, {"\u00a0\u07ff\u0800\uffff", "\U00010000~ ", 7, 4, 16},
	} {
		b := bothWith(t, 32, x.ahead, x.behind)
		if b.b.Count() != x.count || b.b.At() != x.at || b.b.Len() != x.len {
			t.Errorf("%q, %q: Count %d, At %d, Len %d", x.ahead, x.behind, b.b.Count(), b.b.At(), b.b.Len())
		}
	}
}

// Copy into lists that are shorter, as long and longer: what is behind in them stays, also behind their length.
func TestCopy(t *testing.T) {
	for _, s := range []string{"", "a", "a\u20ac\u00e4", "\U0001f600bcd"} {
		for _, p := range split(s) {
			b := bothWith(t, 16, p[0], p[1])
			for n := range len(s) + 4 {
				memory := []byte(strings.Repeat("#", 20))
				want := min(n, len(s))
				if got := b.b.Copy(memory[:n]); got != want || string(memory) != s[:want]+strings.Repeat("#", 20-want) {
					t.Errorf("%q into %d: %d, %q", s, n, got, memory)
				}
			}
			if got := b.b.Copy(nil); got != 0 {
				t.Errorf("%q into nil: %d", s, got)
			}
			b.same("Copy")
		}
	}
}

// What was copied is the caller's own.
func TestWhatIsCopied(t *testing.T) {
	b := bothWith(t, 16, "a\u20ac", "b")
	one, other := make([]byte, 5), make([]byte, 5)
	b.b.Copy(one)
	b.b.Copy(other)
	clear(one)
	b.same("a change of what was copied")
	b.key(api.KillStart)
	b.clear()
	if string(other) != "a\u20acb" || string(one) != "\x00\x00\x00\x00\x00" {
		t.Errorf("%q, %q", one, other)
	}
}

// P11.4.

// What went is in no cell: each character has bytes that no other one has.
func TestWhatWentIsInNoCell(t *testing.T) {
	text := "a\u00e4\u20ac\U0001f600z"
	for _, p := range split(text) {
		for _, kind := range []int{api.Back, api.Delete, api.KillStart, api.KillEnd} {
			b := bothWith(t, 40, p[0], p[1])
			for range 6 {
				b.key(kind)
				left := b.m.text()
				for i := range 40 {
					c, _ := b.a.Cell(i)
					if c != 0 && !strings.Contains(left, string([]byte{c})) {
						t.Errorf("%q, the kind %d: the cell %d holds %d, %q is left", p, kind, i, c, left)
					}
				}
			}
		}
	}
}

// What is refused is in no cell.
func TestWhatIsRefusedIsInNoCell(t *testing.T) {
	b := bothWith(t, 5, "a", "b")
	b.insert("wxyz")
	b.insert("w\n")
	b.insert("wxy\xff")
	b.put(0x1f600)
	b.do(api.Key{C: 0x1f600})
	for i := range 5 {
		want := "ab\x00\x00\x00"[i]
		if c, _ := b.a.Cell(i); c != want {
			t.Errorf("the cell %d holds %d", i, c)
		}
	}
}

// P3, for this layer: rows of calls.

// All rows of four of some calls, in an arena that has room for a few characters.
func TestAllRows(t *testing.T) {
	steps := []func(*both){
		func(b *both) { b.put('a') },
		func(b *both) { b.put(0xe4) },
		func(b *both) { b.do(api.Key{C: 0x1f600}) },
		func(b *both) { b.insert("\u20acx") },
		func(b *both) { b.clear() },
	}
	for _, kind := range keyKinds() {
		steps = append(steps, func(b *both) { b.key(kind) })
	}
	n := len(steps)
	for row := range n * n * n * n {
		b := newBoth(t, 7)
		b.insert("b\u00e4")
		b.key(api.Left)
		for x := row; x > 0; x /= n {
			steps[x%n](b)
		}
	}
}

// Calls by a rule, all of one buffer; each of them comes often, and changes something often, and often nothing.
func TestCallsOfAllSorts(t *testing.T) {
	type answer struct {
		kind    int
		changed bool
	}
	seen := map[answer]int{}
	most := wides()
	for _, cells := range []int{3, 9, 33} {
		b := newBoth(t, cells)
		for _, x := range numbers(60000) {
			c := most[x>>20%uint64(len(most))]
			switch what := x >> 40 % 64; {
			case what < 12:
				ok, _ := b.do(api.Key{Kind: api.Rune, C: int(c)})
				seen[answer{api.Rune, ok}]++
			case what < 16:
				b.insert(strings.Repeat(string(c), int(x>>8%4)))
			case what == 16:
				b.insert(string(c) + wrongs()[x>>8%20])
			case what == 17 && x>>8%8 == 0:
				b.clear()
			default:
				kind := int(x >> 30 % 18)
				c := 0
				if kind == api.Rune {
					c = int(most[x>>8%uint64(len(most))])
				}
				ok, _ := b.do(api.Key{Kind: kind, C: c})
				seen[answer{kind, ok}]++
			}
		}
	}
	for kind := range 18 {
		does := kind == api.Rune || slices.Contains(keyKinds(), kind)
		if seen[answer{kind, true}] < 100 && does || seen[answer{kind, true}] > 0 && !does || seen[answer{kind, false}] < 100 {
			t.Errorf("the kind %d: changed %d, not %d", kind, seen[answer{kind, true}], seen[answer{kind, false}])
		}
	}
}

// P2: two buffers, used in turns, have nothing to do with one another.
func TestTwoBuffers(t *testing.T) {
	one, other := newBoth(t, 20), newBoth(t, 11)
	for _, x := range numbers(5000) {
		b, another := one, other
		if x>>50%2 == 0 {
			b, another = other, one
		}
		kind := int(x >> 20 % 14)
		if kind > 9 {
			kind = 0
		}
		b.do(api.Key{Kind: kind, C: int(wides()[x>>30%15])})
		another.same("the other one's call")
	}
}

// Each by its own goroutine, with the same text.
func TestManyGoroutines(t *testing.T) {
	shared, rules := []byte("a\u20ac\u00e4"), numbers(3000)
	var all sync.WaitGroup
	for i := range 16 {
		all.Go(func() {
			a, _ := arena.New(20 + i)
			b, _ := New(a)
			m := model{cells: 20 + i}
			for _, x := range rules {
				k := api.Key{Kind: int(x >> 20 % 10), C: int(x >> 30 % 300)}
				ok, err := b.Do(k)
				wantOk, want := m.do(k)
				if x>>50%9 == 0 && b.Insert(shared...) != m.insert(string(shared)) {
					t.Errorf("Insert: not as the model, of %q", m.text())
				}
				to := make([]byte, 64)
				if ok != wantOk || err != want || string(to[:b.Copy(to)]) != m.text() || b.At() != len(m.ahead) {
					t.Errorf("%v: %v, %d, want %v, %d", k, ok, err, wantOk, want)
				}
			}
		})
	}
	all.Wait()
	if string(shared) != "a\u20ac\u00e4" {
		t.Errorf("the text is %q", shared)
	}
}

func FuzzAgainstModel(f *testing.F) {
	f.Add([]byte("a\x02b\x04c\x06\x07\x08\x09"), "\u20ac", 5)
	f.Add([]byte{0, 0, 4, 0, 2, 9}, "x\ny", 9)
	f.Add([]byte{200, 201, 202, 203, 4, 4, 250}, "\xff", 36)
	f.Fuzz(func(t *testing.T, calls []byte, text string, cells int) {
		l := []rune(text + "a")
		b := newBoth(t, min(max(cells, 1), 64))
		for i, x := range calls {
			switch {
			case x < 18:
				b.do(api.Key{Kind: int(x), C: int(l[i%len(l)])})
			case x < 160:
				b.put(int(x) * (int(x) - 17))
			case x < 200:
				b.put(int(l[int(x)%len(l)]))
			case x < 230:
				b.insert(text)
			case x < 254:
				b.insert(string(l[:int(x)%(len(l)+1)]))
			default:
				b.clear()
			}
		}
	})
}
