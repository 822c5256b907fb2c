package paste

import (
	"math"
	"strings"
	"sync"
	"testing"

	"whisperer/api"
	"whisperer/arena"
	"whisperer/editbuf"
)

// The model: the characters that wait, and a buffer as two lists of characters, those ahead of its place and those behind it; and how many bytes have room in each of the two.

const greatest = 1114111

type model struct {
	cells, room   int
	begun, over   bool
	waits         []rune
	ahead, behind []rune
}

func (m *model) text() string {
	return string(m.ahead) + string(m.behind)
}

// modelShown asks whether a number is a character that may be shown: one that has bytes of its own, and is no control.
func modelShown(c int) bool {
	switch {
	case c < 32, 127 <= c && c <= 159, 0xd800 <= c && c <= 0xdfff:
		return false
	}
	return c <= greatest
}

func (m *model) start() api.Errno {
	if m.begun {
		return api.ErrState
	}
	m.begun = true
	return api.OK
}

func (m *model) add(c int) api.Errno {
	if !m.begun {
		return api.ErrState
	}
	if !modelShown(c) {
		return api.ErrArg
	}
	if m.over || len(string(m.waits))+len(string(rune(c))) > m.cells {
		m.over = true
		return api.ErrFull
	}
	m.waits = append(m.waits, rune(c))
	return api.OK
}

func (m *model) end(into bool) api.Errno {
	if !m.begun {
		return api.ErrState
	}
	waits, over := m.waits, m.over
	m.drop()
	if !into {
		return api.ErrNil
	}
	if over || len(m.text())+len(string(waits)) > m.room {
		return api.ErrFull
	}
	m.ahead = append(m.ahead, waits...)
	return api.OK
}

func (m *model) drop() {
	m.begun, m.over, m.waits = false, false, nil
}

// both are a stage, a buffer, their arenas, and the model; each call is made of the two, must answer the same, and must leave the same.
type both struct {
	t    *testing.T
	a, c *arena.Arena
	s    *Stage
	b    *editbuf.Buffer
	m    model
}

func newBoth(t *testing.T, cells, room int) *both {
	t.Helper()
	a, err := arena.New(cells)
	if err != api.OK {
		t.Fatalf("an arena of %d cells: %d", cells, err)
	}
	return bothOf(t, a, room)
}

// bothOf have an arena that was there already, whatever it holds.
func bothOf(t *testing.T, a *arena.Arena, room int) *both {
	t.Helper()
	s, err := New(a)
	if err != api.OK || s == nil {
		t.Fatalf("New with %d cells: %v, %d", a.Cap(), s, err)
	}
	c, err := arena.New(room)
	if err != api.OK {
		t.Fatalf("an arena of %d cells: %d", room, err)
	}
	b, _ := editbuf.New(c)
	both := &both{t: t, a: a, c: c, s: s, b: b, m: model{cells: a.Cap(), room: room}}
	both.same("New")
	return both
}

// bothWith have a buffer with some characters ahead of its place, and some behind it.
func bothWith(t *testing.T, cells, room int, ahead, behind string) *both {
	t.Helper()
	b := newBoth(t, cells, room)
	b.hold(ahead, behind)
	return b
}

// hold lays what a buffer is to have, in place of what it has.
func (b *both) hold(ahead, behind string) {
	b.t.Helper()
	b.b.Clear()
	one := b.b.Insert([]byte(behind)...)
	b.b.Do(api.Key{Kind: api.Home})
	if other := b.b.Insert([]byte(ahead)...); one != api.OK || other != api.OK {
		b.t.Fatalf("a buffer with %q, %q: %d, %d", ahead, behind, one, other)
	}
	b.m.ahead, b.m.behind = []rune(ahead), []rune(behind)
	b.same("a change of the buffer")
}

func (b *both) start() api.Errno {
	b.t.Helper()
	got, want := b.s.Start(), b.m.start()
	if got != want {
		b.t.Fatalf("Start: %d, want %d", got, want)
	}
	b.same("Start")
	return got
}

func (b *both) add(c int) api.Errno {
	b.t.Helper()
	was := string(b.m.waits)
	got, want := b.s.Add(c), b.m.add(c)
	if got != want {
		b.t.Fatalf("%.200q, Add(%d): %d, want %d", was, c, got, want)
	}
	b.same("Add")
	return got
}

// addAll adds characters that have room.
func (b *both) addAll(s string) {
	b.t.Helper()
	for _, c := range s {
		if err := b.add(int(c)); err != api.OK {
			b.t.Fatalf("Add(%d), of %.200q: %d", c, s, err)
		}
	}
}

// paste begins a paste, and adds characters that have room.
func (b *both) paste(s string) {
	b.t.Helper()
	if err := b.start(); err != api.OK {
		b.t.Fatalf("Start: %d", err)
	}
	b.addAll(s)
}

func (b *both) end() api.Errno {
	b.t.Helper()
	was := string(b.m.waits)
	got, want := b.s.End(b.b), b.m.end(true)
	if got != want {
		b.t.Fatalf("%.200q, End: %d, want %d", was, got, want)
	}
	b.same("End")
	return got
}

func (b *both) endWithoutBuffer() api.Errno {
	b.t.Helper()
	got, want := b.s.End(nil), b.m.end(false)
	if got != want {
		b.t.Fatalf("End(nil): %d, want %d", got, want)
	}
	b.same("End(nil)")
	return got
}

func (b *both) drop() {
	b.t.Helper()
	b.s.Drop()
	b.m.drop()
	b.same("Drop")
}

// same looks at what the stage and the buffer tell of themselves, and at the cells of both.
func (b *both) same(call string) {
	b.t.Helper()
	waits, text := string(b.m.waits), b.m.text()
	if b.s.Begun() != b.m.begun || b.s.Over() != b.m.over || b.s.Len() != len(waits) {
		b.t.Fatalf("behind %s: Begun %v, Over %v, Len %d, want %v, %v, %d", call, b.s.Begun(), b.s.Over(), b.s.Len(), b.m.begun, b.m.over, len(waits))
	}
	if b.b.At() != len(b.m.ahead) || b.b.Count() != len(b.m.ahead)+len(b.m.behind) || b.b.Len() != len(text) {
		b.t.Fatalf("behind %s: the buffer's At %d, Count %d, Len %d, want those of %q, %q", call, b.b.At(), b.b.Count(), b.b.Len(), string(b.m.ahead), string(b.m.behind))
	}
	if !b.m.begun && !b.a.Zero() {
		b.t.Fatalf("behind %s: none is begun, and something is in a cell", call)
	}
	cells(b.t, call+", the stage", b.a, b.m.cells, waits)
	cells(b.t, call+", the buffer", b.c, b.m.room, text)
}

// cells looks at each cell of an arena.
func cells(t *testing.T, call string, a *arena.Arena, n int, text string) {
	t.Helper()
	if a.Len() != len(text) || a.Cap() != n || !a.Clean() {
		t.Fatalf("behind %s: the arena's Len %d, Cap %d, Clean %v, want those of %.200q", call, a.Len(), a.Cap(), a.Clean(), text)
	}
	for i := range min(n, len(text)+12) {
		want := byte(0)
		if i < len(text) {
			want = text[i]
		}
		if got, err := a.Cell(i); got != want || err != api.OK {
			t.Fatalf("behind %s: the cell %d: %d, %d, want %d of %.200q", call, i, got, err, want, text)
		}
	}
}

// tells holds by hand what a stage tells.
func (b *both) tells(begun, over bool, n int) {
	b.t.Helper()
	if b.s.Begun() != begun || b.s.Over() != over || b.s.Len() != n {
		b.t.Fatalf("Begun %v, Over %v, Len %d, want %v, %v, %d", b.s.Begun(), b.s.Over(), b.s.Len(), begun, over, n)
	}
}

// holds tells by hand what the buffer has.
func (b *both) holds(ahead, behind string) {
	b.t.Helper()
	to := make([]byte, len(ahead)+len(behind)+9)
	n := b.b.Copy(to)
	if string(to[:n]) != ahead+behind || b.b.At() != len([]rune(ahead)) {
		b.t.Fatalf("the buffer: %q, At %d, want %q, %q", to[:n], b.b.At(), ahead, behind)
	}
}

// wides are characters of one, two, three and four bytes, on both sides of the borders.
func wides() []rune {
	return []rune{32, 'a', 126, 160, 0xe4, 0x7ff, 0x800, 0x20ac, 0xd7ff, 0xe000, 0xfffd, 0xffff, 0x10000, 0x1f600, greatest}
}

// fewWides are one of each.
func fewWides() []rune {
	return []rune{'a', 0xe4, 0x20ac, 0x1f600}
}

// contents are all texts of at most two characters of each width, and some that are longer.
func contents() []string {
	l := []string{"", "\u20ac\u00e4a\U0001f600", "xyz", "\ufffd~ ", "\U0010ffff\u00a0\u00a0"}
	for _, c := range fewWides() {
		l = append(l, string(c))
		for _, d := range fewWides() {
			l = append(l, string(c)+string(d))
		}
	}
	return l
}

// split tells a text's parts ahead of and behind each place that it has.
func split(s string) [][2]string {
	l := []rune(s)
	var all [][2]string
	for i := range len(l) + 1 {
		all = append(all, [2]string{string(l[:i]), string(l[i:])})
	}
	return all
}

// noCharacters are numbers that are none, or may not be shown.
func noCharacters() []int {
	l := []int{-1, -2, -32, -97, -128, -65533, math.MinInt, math.MinInt + 97, math.MinInt32, math.MaxInt32, math.MaxUint32, math.MaxInt, 1<<32 + 97, 1<<33 + 0x20ac, 1<<31 + 97, 0xd800, 0xdabc, 0xdbff, 0xdc00, 0xdfff, greatest + 1, greatest + 2, 1 << 21, 127}
	for c := range 32 {
		l = append(l, c, 128+c)
	}
	return l
}

// numbers are n of 64 bits, of all sorts, by a rule.
func numbers(n int) []uint64 {
	l := make([]uint64, n)
	x := uint64(1)
	for i := range l {
		x = x*6364136223846793005 + 1442695040888963407
		l[i] = x ^ x>>29
	}
	return l
}

func TestExamples(t *testing.T) {
	b := bothWith(t, 3, 64, "x", "y")
	if b.start() != api.OK || b.add('a') != api.OK || b.add(228) != api.OK {
		t.Fatal("there was room for 3 bytes")
	}
	if err := b.add('b'); err != api.ErrFull {
		t.Errorf("one more: %d", err)
	}
	if err := b.end(); err != api.ErrFull {
		t.Errorf("End: %d", err)
	}
	b.holds("x", "y")
	b.tells(false, false, 0)
}

// P12.1: New.

func TestNewOfNoArena(t *testing.T) {
	if s, err := New(nil); s != nil || err != api.ErrNil {
		t.Errorf("New(nil): %v, %d", s, err)
	}
}

// An arena that isn't empty is Wiped, and none of its bytes waits.
func TestNewOfAnArenaThatIsntEmpty(t *testing.T) {
	for _, was := range []string{"a", "\u00e4", "\xff\xfe", "\x00\x01", "abc\u20ac", strings.Repeat("x", 9)} {
		a, _ := arena.New(9)
		a.Insert(0, []byte(was)...)
		b := bothOf(t, a, 20)
		b.tells(false, false, 0)
		if !a.Zero() || a.Len() != 0 {
			t.Fatalf("an arena of %q isn't Wiped", was)
		}
		b.paste("\u20ac\u20ac\u20ac")
		if err := b.end(); err != api.OK {
			t.Errorf("an arena of %q, End: %d", was, err)
		}
		b.holds("\u20ac\u20ac\u20ac", "")
	}
}

// Another stage of an arena begins without what the first one had, also if that one was over.
func TestNewOfAnArenaOnceMore(t *testing.T) {
	for _, over := range []bool{false, true} {
		b := newBoth(t, 5, 9)
		b.paste("ab\u20ac")
		if over {
			b.add('c')
		}
		next := bothOf(t, b.a, 9)
		next.tells(false, false, 0)
		next.paste("\U0001f600x")
		next.end()
		next.holds("\U0001f600x", "")
	}
}

func TestNewOfAllSizes(t *testing.T) {
	for _, cells := range []int{1, 2, 3, 4, 5, 36, 1024, 4095, 4096} {
		b := newBoth(t, cells, 4096)
		for _, c := range wides() {
			b.start()
			b.add(int(c))
			b.end()
		}
		b.start()
		b.drop()
	}
}

func TestNilStage(t *testing.T) {
	var s *Stage
	b := newBoth(t, 9, 9)
	b.hold("a", "\u20ac")
	for range 2 {
		if err := s.Start(); err != api.ErrNil {
			t.Errorf("Start: %d", err)
		}
		for _, c := range append(noCharacters(), 'a', 0x20ac, greatest) {
			if err := s.Add(c); err != api.ErrNil {
				t.Errorf("Add(%d): %d", c, err)
			}
		}
		if s.Begun() || s.Over() || s.Len() != 0 {
			t.Errorf("Begun %v, Over %v, Len %d", s.Begun(), s.Over(), s.Len())
		}
		if err := s.End(b.b); err != api.ErrNil {
			t.Errorf("End: %d", err)
		}
		if err := s.End(nil); err != api.ErrNil {
			t.Errorf("End(nil): %d", err)
		}
		s.Drop()
	}
	b.same("the calls of a nil stage")
}

// P12.1: Start.

// Where one is begun already: what waits, and whether it is over, stays.
func TestStartOfWhatIsBegun(t *testing.T) {
	for _, s := range contents() {
		b := newBoth(t, 16, 20)
		b.paste(s)
		for range 2 {
			if err := b.start(); err != api.ErrState {
				t.Errorf("%q: Start: %d", s, err)
			}
			b.tells(true, false, len(s))
		}
		b.addAll("x")
		if err := b.end(); err != api.OK {
			t.Errorf("%q: End: %d", s, err)
		}
		b.holds(s+"x", "")
	}
	b := newBoth(t, 2, 20)
	b.paste("a")
	b.add(0x20ac)
	if err := b.start(); err != api.ErrState {
		t.Errorf("over: Start: %d", err)
	}
	b.tells(true, true, 1)
	if err := b.end(); err != api.ErrFull {
		t.Errorf("over: End: %d", err)
	}
}

// Behind whatever ends one, another one may begin, and nothing waits.
func TestStartBehindAnEnd(t *testing.T) {
	ends := map[string]func(*both){
		"End":      func(b *both) { b.end() },
		"End(nil)": func(b *both) { b.endWithoutBuffer() },
		"Drop":     func(b *both) { b.drop() },
	}
	for name, end := range ends {
		for _, s := range []string{"", "a", "\u20acb"} {
			for _, more := range []int{0, 7, 'x', 0x1f600} {
				b := newBoth(t, 5, 40)
				b.paste(s)
				if more > 0 {
					b.add(more)
				}
				end(b)
				b.tells(false, false, 0)
				if err := b.start(); err != api.OK {
					t.Errorf("%q, %d, %s, Start: %d", s, more, name, err)
				}
				b.tells(true, false, 0)
				b.addAll("\u00e4\u20ac")
				had := b.m.text()
				if err := b.end(); err != api.OK {
					t.Errorf("%q, %d, %s, once more: %d", s, more, name, err)
				}
				b.holds(had+"\u00e4\u20ac", "")
			}
		}
	}
}

// P12.1: Add.

func TestAddByHand(t *testing.T) {
	b := bothWith(t, 13, 30, "x", "y")
	b.start()
	for _, x := range []struct {
		c, len int
		want   []byte
	}{
		{'b', 1, []byte{98}},
		{0xe4, 3, []byte{98, 195, 164}},
		{0x20ac, 6, []byte{98, 195, 164, 226, 130, 172}},
		{' ', 7, []byte{98, 195, 164, 226, 130, 172, 32}},
		{0x1f600, 11, []byte{98, 195, 164, 226, 130, 172, 32, 240, 159, 152, 128}},
		{0xa0, 13, []byte{98, 195, 164, 226, 130, 172, 32, 240, 159, 152, 128, 194, 160}},
	} {
		if err := b.add(x.c); err != api.OK {
			t.Fatalf("Add(%d): %d", x.c, err)
		}
		b.tells(true, false, x.len)
		for i := range 13 {
			want := byte(0)
			if i < len(x.want) {
				want = x.want[i]
			}
			if c, err := b.a.Cell(i); c != want || err != api.OK {
				t.Fatalf("%d: the cell %d: %d, %d, want %d", x.c, i, c, err, want)
			}
		}
	}
	b.holds("x", "y")
}

// Where none is begun nothing is taken, whatever it is, and wherever it comes.
func TestAddWhereNoneIsBegun(t *testing.T) {
	b := bothWith(t, 9, 20, "x", "y")
	see := func(when string) {
		for _, c := range append(noCharacters(), 'a', 0xe4, 0x20ac, greatest) {
			if err := b.add(c); err != api.ErrState {
				t.Errorf("%s, Add(%d): %d", when, c, err)
			}
			b.tells(false, false, 0)
		}
	}
	see("at first")
	b.paste("abc")
	b.end()
	see("behind an End")
	b.paste("\u20ac\u20ac\u20ac")
	b.add('a')
	b.end()
	see("behind an End of one that was over")
	b.paste("abc")
	b.endWithoutBuffer()
	see("behind an End without a buffer")
	b.paste("abc")
	b.drop()
	see("behind a Drop")
	b.holds("xabc", "y")
}

// What is no character, or may not be shown, is refused, also where there is no room, and where it is over, and changes nothing: it isn't over by that.
func TestAddOfNoCharacter(t *testing.T) {
	for _, c := range noCharacters() {
		for _, s := range []string{"", "a\u00e4", "12345678"} {
			b := newBoth(t, 8, 20)
			b.paste(s)
			if err := b.add(c); err != api.ErrArg {
				t.Errorf("%q: Add(%d): %d", s, c, err)
			}
			b.tells(true, false, len(s))
			if err := b.end(); err != api.OK {
				t.Errorf("%q: Add(%d), End: %d", s, c, err)
			}
			b.holds(s, "")
		}
		b := newBoth(t, 3, 20)
		b.paste("ab")
		b.add(0x20ac)
		if err := b.add(c); err != api.ErrArg {
			t.Errorf("over: Add(%d): %d", c, err)
		}
		b.tells(true, true, 2)
		if err := b.end(); err != api.ErrFull {
			t.Errorf("over: Add(%d), End: %d", c, err)
		}
	}
}

func TestAddOfAllNumbers(t *testing.T) {
	a, _ := arena.New(4)
	s, _ := New(a)
	c, _ := arena.New(4)
	b, _ := editbuf.New(c)
	to := make([]byte, 8)
	for c := -2000; c < greatest+2000; c++ {
		want, text := api.ErrArg, ""
		if modelShown(c) {
			want, text = api.OK, string(rune(c))
		}
		s.Start()
		err := s.Add(c)
		n := a.Copy(to)
		if err != want || string(to[:n]) != text || s.Len() != len(text) || s.Over() {
			t.Fatalf("Add(%d): %d, %q, Len %d, Over %v", c, err, to[:n], s.Len(), s.Over())
		}
		if err := s.End(b); err != api.OK || !a.Zero() {
			t.Fatalf("Add(%d), End: %d", c, err)
		}
		if n := b.Copy(to); string(to[:n]) != text {
			t.Fatalf("Add(%d), End: %q", c, to[:n])
		}
		b.Clear()
	}
}

// Room for just as many bytes as a character has, and for one, two and three less.
func TestAddWithLittleRoom(t *testing.T) {
	for _, c := range wides() {
		n := len(string(c))
		for filled := range 9 {
			for room := range 6 {
				if filled+room == 0 {
					continue
				}
				b := newBoth(t, filled+room, 40)
				s := strings.Repeat("x", filled)
				b.paste(s)
				err := b.add(int(c))
				if room < n {
					if err != api.ErrFull {
						t.Fatalf("%d bytes, room for %d, Add(%d): %d", filled, room, c, err)
					}
					b.tells(true, true, filled)
					if err := b.end(); err != api.ErrFull {
						t.Fatalf("%d bytes, room for %d, Add(%d), End: %d", filled, room, c, err)
					}
					b.holds("", "")
					continue
				}
				if err != api.OK {
					t.Fatalf("%d bytes, room for %d, Add(%d): %d", filled, room, c, err)
				}
				b.tells(true, false, filled+n)
				if err := b.end(); err != api.OK {
					t.Fatalf("%d bytes, room for %d, Add(%d), End: %d", filled, room, c, err)
				}
				b.holds(s+string(c), "")
			}
		}
	}
}

// Behind an Add that had no room none has any more, also where there would be some.
func TestAddBehindOneWithoutRoom(t *testing.T) {
	for room := 1; room < 4; room++ {
		b := newBoth(t, 2+room, 40)
		b.paste("ab")
		if err := b.add(0x1f600); err != api.ErrFull {
			t.Fatalf("room for %d, 4 bytes: %d", room, err)
		}
		b.tells(true, true, 2)
		for _, c := range append(wides(), 'c', 'd') {
			if err := b.add(int(c)); err != api.ErrFull {
				t.Errorf("over, room for %d, Add(%d): %d", room, c, err)
			}
			b.tells(true, true, 2)
		}
		if err := b.end(); err != api.ErrFull {
			t.Errorf("over, End: %d", err)
		}
		b.holds("", "")
		b.paste("abc")
		if err := b.end(); err != api.OK {
			t.Errorf("the next one's End: %d", err)
		}
		b.holds("abc", "")
	}
}

// Each other call behind an Add that had no room.
func TestCallsBehindAnAddWithoutRoom(t *testing.T) {
	over := func() *both {
		b := bothWith(t, 3, 40, "x", "y")
		b.paste("\u20ac")
		b.add('a')
		b.tells(true, true, 3)
		return b
	}
	b := over()
	if err := b.start(); err != api.ErrState {
		t.Errorf("Start: %d", err)
	}
	b.tells(true, true, 3)
	b = over()
	b.drop()
	b.tells(false, false, 0)
	b = over()
	if err := b.endWithoutBuffer(); err != api.ErrNil {
		t.Errorf("End(nil): %d", err)
	}
	b.tells(false, false, 0)
	b = over()
	if err := b.end(); err != api.ErrFull {
		t.Errorf("End: %d", err)
	}
	b.tells(false, false, 0)
	if err := b.end(); err != api.ErrState {
		t.Errorf("another End: %d", err)
	}
	b.holds("x", "y")
}

// P12.2: End.

func TestEndWhereNoneIsBegun(t *testing.T) {
	b := bothWith(t, 9, 20, "x", "y")
	see := func(when string) {
		if err := b.end(); err != api.ErrState {
			t.Errorf("%s, End: %d", when, err)
		}
		if err := b.endWithoutBuffer(); err != api.ErrState {
			t.Errorf("%s, End(nil): %d", when, err)
		}
		b.tells(false, false, 0)
	}
	see("at first")
	b.paste("abc")
	b.end()
	see("behind an End")
	b.paste("abc")
	b.endWithoutBuffer()
	see("behind an End without a buffer")
	b.start()
	b.end()
	see("behind an End of nothing")
	b.paste("abc")
	b.drop()
	see("behind a Drop")
	b.holds("xabc", "y")
}

// Without a buffer it is ErrNil, also where it is over, and it is begun no more.
func TestEndWithoutABuffer(t *testing.T) {
	for _, s := range append(contents(), strings.Repeat("x", 16)) {
		for _, over := range []bool{false, true} {
			b := bothWith(t, max(len(s), 1), 40, "x", "y")
			b.paste(s)
			if over {
				b.add(0x1f600)
				b.tells(true, true, len(s))
			}
			if err := b.endWithoutBuffer(); err != api.ErrNil {
				t.Errorf("%q, over %v, End(nil): %d", s, over, err)
			}
			b.tells(false, false, 0)
			b.holds("x", "y")
			if !b.a.Zero() || b.a.Len() != 0 {
				t.Errorf("%q, over %v, End(nil): the arena isn't Wiped", s, over)
			}
		}
	}
}

// Into an empty buffer, and into such whose place stands ahead of, between and behind its characters.
func TestEndEverywhere(t *testing.T) {
	for _, had := range contents() {
		for _, p := range split(had) {
			for _, s := range contents() {
				b := bothWith(t, 16, 40, p[0], p[1])
				b.paste(s)
				b.holds(p[0], p[1])
				if err := b.end(); err != api.OK {
					t.Fatalf("%q, %q, End of %q: %d", p[0], p[1], s, err)
				}
				b.holds(p[0]+s, p[1])
				b.tells(false, false, 0)
				if !b.a.Zero() || b.a.Len() != 0 {
					t.Fatalf("%q, %q, End of %q: the arena isn't Wiped", p[0], p[1], s)
				}
			}
		}
	}
}

func TestEndByHand(t *testing.T) {
	b := bothWith(t, 8, 16, "x", "y")
	b.paste("a\u00e4\u20ac")
	b.end()
	want := []byte{120, 97, 195, 164, 226, 130, 172, 121, 0, 0, 0, 0, 0, 0, 0, 0}
	for i, w := range want {
		if c, err := b.c.Cell(i); c != w || err != api.OK {
			t.Errorf("the cell %d: %d, %d, want %d", i, c, err, w)
		}
	}
	if b.b.At() != 4 || b.b.Count() != 5 || b.b.Len() != 8 {
		t.Errorf("At %d, Count %d, Len %d", b.b.At(), b.b.Count(), b.b.Len())
	}
	for i := range 8 {
		if c, err := b.a.Cell(i); c != 0 || err != api.OK {
			t.Errorf("the stage's cell %d: %d, %d", i, c, err)
		}
	}
}

// Room for just as many bytes as wait, and for one less: nothing of it is laid then.
func TestEndWithLittleRoom(t *testing.T) {
	for _, had := range []string{"", "a", "\u20ac\u00e4", "xyz\U0001f600"} {
		for _, p := range split(had) {
			for _, s := range contents()[1:] {
				n := len(had) + len(s)
				b := bothWith(t, 16, n, p[0], p[1])
				b.paste(s)
				if err := b.end(); err != api.OK {
					t.Fatalf("%q, room for %d, End of %q: %d", p, len(s), s, err)
				}
				b.holds(p[0]+s, p[1])
				b.paste("z")
				if err := b.end(); err != api.ErrFull {
					t.Fatalf("%q, no room, End: %d", p, err)
				}
				b.holds(p[0]+s, p[1])
				if n == 1 {
					continue
				}
				b = bothWith(t, 16, n-1, p[0], p[1])
				b.paste(s)
				if err := b.end(); err != api.ErrFull {
					t.Fatalf("%q, room for %d, End of %q: %d", p, len(s)-1, s, err)
				}
				b.holds(p[0], p[1])
				b.tells(false, false, 0)
				if !b.a.Zero() || b.a.Len() != 0 {
					t.Fatalf("%q, room for %d, End of %q: the arena isn't Wiped", p, len(s)-1, s)
				}
			}
		}
	}
}

// Nothing that waits is laid, also where there is no room.
func TestEndOfNothing(t *testing.T) {
	for _, had := range []string{"", "a", "\u20ac\u00e4", "12345"} {
		for _, p := range split(had) {
			b := bothWith(t, 3, 5, p[0], p[1])
			b.start()
			if err := b.end(); err != api.OK {
				t.Errorf("%q: End of nothing: %d", p, err)
			}
			b.start()
			b.add(7)
			if err := b.end(); err != api.OK {
				t.Errorf("%q: End of what was refused: %d", p, err)
			}
			b.tells(false, false, 0)
			b.holds(p[0], p[1])
		}
	}
}

// One that was over isn't laid, though its first characters would have room.
func TestEndOfWhatWasOver(t *testing.T) {
	for _, had := range []string{"", "a", "\u20ac\u00e4"} {
		for _, p := range split(had) {
			for _, s := range contents() {
				for _, room := range []int{len(had) + 1, 40, 4096} {
					b := bothWith(t, len(s)+1, room, p[0], p[1])
					b.paste(s)
					if err := b.add(0xe4); err != api.ErrFull {
						t.Fatalf("%q: Add: %d", s, err)
					}
					if err := b.end(); err != api.ErrFull {
						t.Errorf("%q, End of %q that was over: %d", p, s, err)
					}
					b.tells(false, false, 0)
					b.holds(p[0], p[1])
					if !b.a.Zero() || b.a.Len() != 0 {
						t.Errorf("%q, End of %q that was over: the arena isn't Wiped", p, s)
					}
				}
			}
		}
	}
}

// A paste may end in another buffer than the last one did, and what is done to a buffer while it waits counts.
func TestEndIntoOthers(t *testing.T) {
	b := bothWith(t, 9, 20, "ab", "c")
	b.paste("xy")
	b.hold("", "\u20ac")
	b.addAll("z")
	if err := b.end(); err != api.OK {
		t.Errorf("End: %d", err)
	}
	b.holds("xyz", "\u20ac")
	another := newBoth(t, 9, 9)
	another.hold("1", "2")
	b.start()
	b.s.Add('q')
	if err := b.s.End(another.b); err != api.OK {
		t.Errorf("End into another one: %d", err)
	}
	b.m.drop()
	b.same("End into another one")
	another.m.ahead = []rune("1q")
	another.same("the other one's End")
	// One that is too small refuses, the next one has room.
	small := newBoth(t, 9, 2)
	b.start()
	b.s.Add(0x20ac)
	if err := b.s.End(small.b); err != api.ErrFull {
		t.Errorf("End into a small one: %d", err)
	}
	small.same("an End without room")
	b.m.drop()
	b.paste("\u20ac")
	if err := b.end(); err != api.OK {
		t.Errorf("End: %d", err)
	}
	b.holds("xyz\u20ac", "\u20ac")
}

// P12.2: Drop.

func TestDropWhereNoneIsBegun(t *testing.T) {
	b := bothWith(t, 5, 20, "x", "y")
	b.drop()
	b.tells(false, false, 0)
	b.drop()
	b.paste("abc")
	b.end()
	b.drop()
	b.tells(false, false, 0)
	if err := b.end(); err != api.ErrState {
		t.Errorf("End: %d", err)
	}
	if err := b.start(); err != api.OK {
		t.Errorf("Start: %d", err)
	}
	b.holds("xabc", "y")
}

func TestDrop(t *testing.T) {
	for _, s := range contents() {
		for _, more := range []int{0, 10, 'x', 0x1f600} {
			b := bothWith(t, max(len(s), 1), 40, "x", "y")
			b.paste(s)
			if more > 0 {
				b.add(more)
			}
			b.drop()
			b.tells(false, false, 0)
			b.holds("x", "y")
			if !b.a.Zero() || b.a.Len() != 0 {
				t.Errorf("%q, Drop: the arena isn't Wiped", s)
			}
			if b.end() != api.ErrState || b.endWithoutBuffer() != api.ErrState || b.add('a') != api.ErrState {
				t.Errorf("%q, Drop: something is begun", s)
			}
		}
	}
}

// P12.3.

func TestBegunOverAndLenByHand(t *testing.T) {
	b := newBoth(t, 6, 20)
	b.tells(false, false, 0)
	b.start()
	b.tells(true, false, 0)
	b.add('a')
	b.tells(true, false, 1)
	b.add(0x1f600)
	b.tells(true, false, 5)
	b.add(7)
	b.tells(true, false, 5)
	b.add(0xe4)
	b.tells(true, true, 5)
	b.add('b')
	b.tells(true, true, 5)
	b.start()
	b.tells(true, true, 5)
	b.end()
	b.tells(false, false, 0)
	b.add('b')
	b.tells(false, false, 0)
	b.start()
	b.tells(true, false, 0)
	b.add('b')
	b.tells(true, false, 1)
	b.drop()
	b.tells(false, false, 0)
	b.end()
	b.tells(false, false, 0)
}

// P12.4.

// One paste behind another: each is laid whole, or not at all, and leaves nothing to the next one.
func TestOnePasteBehindAnother(t *testing.T) {
	b := bothWith(t, 6, 14, "", "|")
	for _, x := range []struct {
		s     string
		err   api.Errno
		ahead string
	}{
		{"abc", api.OK, "abc"},
		{"1234567", api.ErrFull, "abc"},
		{"\u20ac\u00e4", api.OK, "abc\u20ac\u00e4"},
		{"\u20ac\u20ac", api.ErrFull, "abc\u20ac\u00e4"},
		{"", api.OK, "abc\u20ac\u00e4"},
		{"ab\U0001f600c", api.ErrFull, "abc\u20ac\u00e4"},
		{"\U0001f600", api.OK, "abc\u20ac\u00e4\U0001f600"},
		{"xy", api.ErrFull, "abc\u20ac\u00e4\U0001f600"},
		{"x", api.OK, "abc\u20ac\u00e4\U0001f600x"},
		{"", api.OK, "abc\u20ac\u00e4\U0001f600x"},
		{"y", api.ErrFull, "abc\u20ac\u00e4\U0001f600x"},
	} {
		b.start()
		for _, c := range x.s {
			b.add(int(c))
		}
		if err := b.end(); err != x.err {
			t.Fatalf("%q: %d, want %d", x.s, err, x.err)
		}
		b.holds(x.ahead, "|")
		if !b.a.Zero() {
			t.Fatalf("%q: something is in a cell", x.s)
		}
	}
}

// A short paste behind a long one: the cells that it doesn't need hold nothing of that one.
func TestNothingOfALongerOneStays(t *testing.T) {
	long := strings.Repeat("\U0001f600", 5)
	ends := []func(*both){
		func(b *both) { b.end() },
		func(b *both) { b.endWithoutBuffer() },
		func(b *both) { b.drop() },
	}
	for _, end := range ends {
		b := newBoth(t, 20, 24)
		b.paste(long)
		end(b)
		b.hold("", "")
		b.start()
		for i := range 20 {
			if c, _ := b.a.Cell(i); c != 0 {
				t.Errorf("the cell %d holds %d", i, c)
			}
		}
		b.addAll("ab")
		for i := range 20 {
			want := byte(0)
			if i < 2 {
				want = "ab"[i]
			}
			if c, _ := b.a.Cell(i); c != want {
				t.Errorf("the cell %d holds %d, want %d", i, c, want)
			}
		}
		b.end()
		b.holds("ab", "")
	}
}

// The greatest arenas, filled to the last cell.
func TestTheGreatestArenas(t *testing.T) {
	for _, c := range fewWides() {
		whole := strings.Repeat(string(c), 4096/len(string(c)))
		b := newBoth(t, 4096, 4096)
		b.start()
		for range 4096 / len(string(c)) {
			if err := b.s.Add(int(c)); err != api.OK {
				t.Fatalf("%q, Len %d: %d", c, b.s.Len(), err)
			}
		}
		b.m.waits = []rune(whole)
		b.same("as many as there may be")
		if err := b.end(); err != api.OK {
			t.Errorf("as many of %q as there may be: %d", c, err)
		}
		if b.b.Len() != len(whole) || b.b.At() != len([]rune(whole)) || !b.a.Zero() {
			t.Errorf("%q: Len %d, At %d", c, b.b.Len(), b.b.At())
		}
		b.start()
		for b.s.Add(int(c)) == api.OK {
		}
		if !b.s.Over() || b.s.Len() != len(whole) {
			t.Errorf("one more of %q: Over %v, Len %d", c, b.s.Over(), b.s.Len())
		}
		b.m.waits, b.m.over = []rune(whole), true
		b.same("one more")
		b.hold("", "")
		if err := b.end(); err != api.ErrFull {
			t.Errorf("one more of %q, End: %d", c, err)
		}
		b.holds("", "")
	}
}

// P3, for this layer: rows of calls.

// All rows of five of some calls, with room for a few characters in the stage, and for some more in the buffer.
func TestAllRows(t *testing.T) {
	steps := []func(*both){
		func(b *both) { b.start() },
		func(b *both) { b.add('a') },
		func(b *both) { b.add(0xe4) },
		func(b *both) { b.add(0x20ac) },
		func(b *both) { b.add(0x1f600) },
		func(b *both) { b.add(127) },
		func(b *both) { b.end() },
		func(b *both) { b.endWithoutBuffer() },
		func(b *both) { b.drop() },
	}
	n := len(steps)
	for row := range n * n * n * n * n {
		for _, begun := range []bool{false, true} {
			b := bothWith(t, 5, 9, "b", "\u00e4")
			if begun {
				b.start()
			}
			for x, left := row, 5; left > 0; x, left = x/n, left-1 {
				steps[x%n](b)
			}
		}
	}
}

// Calls by a rule, all of one stage; each of them ends often in each way that it may end in.
func TestCallsOfAllSorts(t *testing.T) {
	seen := map[string]map[api.Errno]int{"start": {}, "add": {}, "end": {}, "endWithoutBuffer": {}}
	most, no := wides(), noCharacters()
	for _, cells := range []int{3, 9, 33} {
		b := newBoth(t, cells, cells+7)
		for _, x := range numbers(60000) {
			c := int(most[x>>20%uint64(len(most))])
			switch what := x >> 40 % 64; {
			case what < 8:
				seen["start"][b.start()]++
			case what < 48:
				seen["add"][b.add(c)]++
			case what < 52:
				seen["add"][b.add(no[x>>20%uint64(len(no))])]++
			case what < 58:
				seen["end"][b.end()]++
			case what < 60:
				seen["endWithoutBuffer"][b.endWithoutBuffer()]++
			case what == 60:
				b.drop()
			default:
				had := split(string(append(b.m.ahead, b.m.behind...)))
				p := had[x>>20%uint64(len(had))]
				if what == 61 {
					p[1] = ""
				}
				b.hold(p[0], p[1])
			}
		}
	}
	for call, errs := range map[string][]api.Errno{
		"start":            {api.OK, api.ErrState},
		"add":              {api.OK, api.ErrState, api.ErrArg, api.ErrFull},
		"end":              {api.OK, api.ErrState, api.ErrFull},
		"endWithoutBuffer": {api.ErrState, api.ErrNil},
	} {
		for _, err := range errs {
			if seen[call][err] < 100 {
				t.Errorf("%s, %d: %d times", call, err, seen[call][err])
			}
		}
		if len(seen[call]) != len(errs) {
			t.Errorf("%s: %v", call, seen[call])
		}
	}
}

// P2: two stages, used in turns, have nothing to do with one another.
func TestTwoStages(t *testing.T) {
	one, other := newBoth(t, 8, 30), newBoth(t, 5, 20)
	for _, x := range numbers(8000) {
		b, another := one, other
		if x>>50%2 == 0 {
			b, another = other, one
		}
		switch what := x >> 40 % 16; {
		case what < 3:
			b.start()
		case what < 12:
			b.add(int(wides()[x>>20%15]))
		case what < 15:
			b.end()
		default:
			b.hold("", "")
		}
		another.same("the other one's call")
	}
}

// Two stages into one buffer: what one lays is where the other one's is laid behind.
func TestTwoStagesIntoOneBuffer(t *testing.T) {
	one, other := newBoth(t, 8, 20), newBoth(t, 8, 1)
	one.paste("a\u20ac")
	other.paste("\u00e4b")
	if err := other.s.End(one.b); err != api.OK {
		t.Errorf("the other one's End: %d", err)
	}
	other.m.drop()
	other.same("its End")
	one.m.ahead = []rune("\u00e4b")
	one.same("the other one's End")
	if err := one.end(); err != api.OK {
		t.Errorf("End: %d", err)
	}
	one.holds("\u00e4ba\u20ac", "")
}

// Each by its own goroutine.
func TestManyGoroutines(t *testing.T) {
	rules, most := numbers(3000), wides()
	var all sync.WaitGroup
	for i := range 16 {
		all.Go(func() {
			a, _ := arena.New(3 + i)
			s, _ := New(a)
			c, _ := arena.New(40 + i)
			b, _ := editbuf.New(c)
			m := model{cells: 3 + i, room: 40 + i}
			to := make([]byte, 64)
			for _, x := range rules {
				var got, want api.Errno
				switch what := x >> 40 % 16; {
				case what < 3:
					got, want = s.Start(), m.start()
				case what < 13:
					c := int(most[x>>20%15])
					got, want = s.Add(c), m.add(c)
				case what < 15:
					got, want = s.End(b), m.end(true)
				default:
					b.Clear()
					m.ahead = nil
				}
				if got != want || s.Len() != len(string(m.waits)) || s.Begun() != m.begun || s.Over() != m.over || string(to[:b.Copy(to)]) != m.text() {
					t.Errorf("%d, want %d, Len %d", got, want, s.Len())
				}
			}
		})
	}
	all.Wait()
}

func FuzzAgainstModel(f *testing.F) {
	f.Add([]byte("\x00abc\x01\x00de\x02f\x03"), "\u20ac\u00e4|", 5, 9)
	f.Add([]byte{0, 40, 220, 41, 1, 0, 250, 1, 4, 0, 60, 1}, "x\ny\U0001f600", 3, 7)
	f.Add([]byte{0, 0, 230, 231, 232, 233, 4, 1, 1, 3}, "\xff", 36, 64)
	f.Fuzz(func(t *testing.T, calls []byte, text string, cells, room int) {
		l := []rune(text + "a")
		b := newBoth(t, min(max(cells, 1), 64), min(max(room, 1), 64))
		for i, x := range calls {
			switch {
			case x == 0:
				b.start()
			case x == 1:
				b.end()
			case x == 2:
				b.endWithoutBuffer()
			case x == 3:
				b.drop()
			case x < 20:
				had := split(b.m.text())
				p := had[int(x)%len(had)]
				b.hold(p[0], p[1])
			case x == 20:
				b.hold("", "")
			case x < 160:
				b.add(int(x) * (int(x) - 21))
			default:
				b.add(int(l[(i+int(x))%len(l)]))
			}
		}
	})
}
