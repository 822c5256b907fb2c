package sink

import (
	"fmt"
	"strings"
	"sync"
	"testing"

	"whisperer/api"
	"whisperer/arena"
	"whisperer/editbuf"
)

// The model: all that the caller has as one text, where in it the list is, and the secrets that were delivered.

type model struct {
	all      string
	from, to int
	secrets  []string
}

func (m *model) deliver(s *secret) (int, api.Errno) {
	switch {
	case s == nil:
		return 0, api.ErrNil
	case len(m.secrets) != 0:
		return 0, api.ErrState
	case m.from+len(s.text()) > m.to:
		return 0, api.ErrSmall
	}
	m.secrets = []string{s.text()}
	m.all = m.all[:m.from] + s.text() + m.all[m.from+len(s.text()):]
	return len(s.text()), api.OK
}

func (m *model) given() (int, bool) {
	return len(strings.Join(m.secrets, "")), len(m.secrets) == 1
}

// secret is a buffer, its arena, and what is in them.
type secret struct {
	t             *testing.T
	a             *arena.Arena
	b             *editbuf.Buffer
	cells         int
	ahead, behind string
}

func (s *secret) text() string { return s.ahead + s.behind }

// newSecret has some characters ahead of the place, and some behind it.
func newSecret(t *testing.T, cells int, ahead, behind string) *secret {
	t.Helper()
	a, err := arena.New(cells)
	if err != api.OK {
		t.Fatalf("an arena of %d cells: %d", cells, err)
	}
	b, _ := editbuf.New(a)
	b.Insert([]byte(behind)...)
	b.Do(api.Key{Kind: api.Home})
	b.Insert([]byte(ahead)...)
	s := &secret{t: t, a: a, b: b, cells: cells, ahead: ahead, behind: behind}
	s.same("laid")
	return s
}

// secretOf has its place at its end.
func secretOf(t *testing.T, text string) *secret {
	t.Helper()
	return newSecret(t, 64, text, "")
}

// same looks at all that the buffer and the arena tell of themselves.
func (s *secret) same(call string) {
	s.t.Helper()
	text := s.text()
	if s.b.Count() != len([]rune(text)) || s.b.At() != len([]rune(s.ahead)) || s.b.Len() != len(text) {
		s.t.Fatalf("%s: the buffer's Count %d, At %d, Len %d, want those of %.100q, %.100q", call, s.b.Count(), s.b.At(), s.b.Len(), s.ahead, s.behind)
	}
	if s.a.Len() != len(text) || s.a.Cap() != s.cells || !s.a.Clean() {
		s.t.Fatalf("%s: the arena's Len %d, Cap %d, Clean %v, want those of %.100q", call, s.a.Len(), s.a.Cap(), s.a.Clean(), text)
	}
	for i := range s.cells {
		want := byte(0)
		if i < len(text) {
			want = text[i]
		}
		if got, err := s.a.Cell(i); got != want || err != api.OK {
			s.t.Fatalf("%s: the cell %d: %d, %d, want %d", call, i, got, err, want)
		}
	}
}

// both are a sink, the caller's memory, and the model; each call is made of the two, must answer the same, and must leave the same.
type both struct {
	t      *testing.T
	memory []byte
	s      *Sink
	m      model
}

// newBoth is one of a part of the caller's memory.
func newBoth(t *testing.T, all string, from, to int) *both {
	t.Helper()
	memory := []byte(all)
	b := &both{t: t, memory: memory, s: New(memory[from:to]), m: model{all: all, from: from, to: to}}
	if b.s == nil {
		t.Fatal("New: no sink")
	}
	b.same("New")
	return b
}

// newWhole is one of so many bytes, with others ahead of them and behind them.
func newWhole(t *testing.T, room int) *both {
	t.Helper()
	return newBoth(t, filled(room+20), 7, room+7)
}

// filled are bytes that aren't 0 and differ from those beside them.
func filled(n int) string {
	l := make([]byte, n)
	for i := range l {
		l[i] = byte(i%250 + 3)
	}
	return string(l)
}

func (b *both) deliver(s *secret) api.Errno {
	b.t.Helper()
	var buffer *editbuf.Buffer
	name := "nothing"
	if s != nil {
		buffer, name = s.b, fmt.Sprintf("%.100q", s.text())
	}
	n, err := b.s.Deliver(buffer)
	want, wantErr := b.m.deliver(s)
	if n != want || err != wantErr {
		b.t.Fatalf("a room of %d, Deliver of %s: %d, %d, want %d, %d", b.m.to-b.m.from, name, n, err, want, wantErr)
	}
	b.same("Deliver of " + name)
	if s != nil {
		s.same("behind Deliver of " + name)
	}
	return err
}

// answers tells by hand what a Deliver answers.
func (b *both) answers(s *secret, want api.Errno) {
	b.t.Helper()
	if err := b.deliver(s); err != want {
		b.t.Fatalf("Deliver: %d, want %d", err, want)
	}
}

// same looks at what the sink tells of itself, at the caller's bytes, and at those around them. It asks twice, as asking changes nothing.
func (b *both) same(call string) {
	b.t.Helper()
	for range 2 {
		n, ok := b.s.Given()
		if want, wantOk := b.m.given(); n != want || ok != wantOk {
			b.t.Fatalf("behind %s: Given %d, %v, want %d, %v", call, n, ok, want, wantOk)
		}
		if got, want := b.s.Room(), b.m.to-b.m.from; got != want {
			b.t.Fatalf("behind %s: Room %d, want %d", call, got, want)
		}
		if string(b.memory) != b.m.all {
			b.t.Fatalf("behind %s: the caller has %.200q, want %.200q, the list from %d to %d", call, b.memory, b.m.all, b.m.from, b.m.to)
		}
	}
}

// texts are some of each number of bytes up to 14, of characters of one, two, three and four bytes.
func texts() []string {
	l := []string{"", "a", "~", "\u00e4", "ab", "\u20ac", "a\u00e4", "\u00e4a", "abc", "\U0001f600", "\u00e4\u00f6", "a\u20ac", "abcd", "abcde", "\u20ac\u00e4", "\U0001f600a"}
	for n := 6; n <= 14; n++ {
		l = append(l, strings.Repeat("x", n), strings.Repeat("\u00e4", n/2)+strings.Repeat("y", n%2), strings.Repeat("z", n%4)+strings.Repeat("\U0010ffff", n/4))
	}
	return l
}

// split tells a text's parts ahead of and behind each place that it has.
func split(s string) [][2]string {
	l := []rune(s)
	var all [][2]string
	for i := range len(l) + 1 {
		all = append(all, [2]string{string(l[:i]), string(l[i:])})
	}
	return all
}

// numbers are n of 64 bits, of all sorts, by a rule.
func numbers(n int) []uint64 {
	l := make([]uint64, n)
	x := uint64(1)
	for i := range l {
		x = x*6364136223846793005 + 1442695040888963407
		l[i] = x ^ x>>29
	}
	return l
}

func TestExamples(t *testing.T) {
	five := []byte("12345")
	s := New(five)
	if n, err := s.Deliver(secretOf(t, "abc").b); n != 3 || err != api.OK || string(five) != "abc45" {
		t.Errorf("5 bytes, a secret of 3: %d, %d, %q", n, err, five)
	}
	five = []byte("12345")
	s = New(five)
	if n, err := s.Deliver(secretOf(t, "abcdef").b); n != 0 || err != api.ErrSmall || string(five) != "12345" {
		t.Errorf("5 bytes, a secret of 6: %d, %d, %q", n, err, five)
	}
	if n, ok := s.Given(); n != 0 || ok {
		t.Errorf("5 bytes, a secret of 6: Given %d, %v", n, ok)
	}
	// Of the whole.
	three := []byte("123")
	s = New(three)
	if n, err := s.Deliver(secretOf(t, "abcd").b); n != 0 || err != api.ErrSmall || string(three) != "123" {
		t.Errorf("3 bytes, a secret of 4: %d, %d, %q", n, err, three)
	}
	edited := newSecret(t, 9, "", "")
	for _, k := range []api.Key{{C: 'a'}, {Kind: api.Left}, {C: 'b'}} {
		edited.b.Do(k)
	}
	to := []byte("....")
	if n, err := New(to).Deliver(edited.b); n != 2 || err != api.OK || string(to) != "ba.." {
		t.Errorf("a, Left, b: %d, %d, %q", n, err, to)
	}
}

// --- P15.1: a nil sink.

func TestNoSink(t *testing.T) {
	var s *Sink
	for range 2 {
		if n, err := s.Deliver(nil); n != 0 || err != api.ErrNil {
			t.Errorf("Deliver of nothing: %d, %d", n, err)
		}
		for _, text := range texts() {
			secret := secretOf(t, text)
			if n, err := s.Deliver(secret.b); n != 0 || err != api.ErrNil {
				t.Errorf("Deliver of %q: %d, %d", text, n, err)
			}
			secret.same("behind no sink's Deliver")
		}
		if n, ok := s.Given(); n != 0 || ok {
			t.Errorf("Given: %d, %v", n, ok)
		}
		if n := s.Room(); n != 0 {
			t.Errorf("Room: %d", n)
		}
	}
}

// --- P15.1: New and Room.

// Room is how long the list is, whatever lies behind it in its memory.
func TestRoom(t *testing.T) {
	for _, n := range []int{0, 1, 2, 3, 4, 5, 7, 8, 9, 63, 64, 65, 255, 256, 257, 1023, 1024, 1025, 4095, 4096, 4097, 65536, 1 << 20} {
		for _, behind := range []int{0, 1, 2, 100} {
			newBoth(t, filled(n+behind), 0, n)
			newBoth(t, filled(n+behind), behind, n+behind)
		}
		if got := New(make([]byte, n, n+9)).Room(); got != n {
			t.Errorf("a list of %d: Room %d", n, got)
		}
	}
}

func TestNoBytes(t *testing.T) {
	memory := []byte("123")
	lists := map[string][]byte{
		"nil":                 nil,
		"none":                {},
		"none, room behind":   make([]byte, 0, 9),
		"none, of the front":  memory[:0],
		"none, of the middle": memory[1:1],
		"none, of the end":    memory[3:],
	}
	for name, to := range lists {
		for _, text := range texts() {
			s, secret := New(to), secretOf(t, text)
			want, delivered := api.ErrSmall, false
			if text == "" {
				want, delivered = api.OK, true
			}
			if n, ok := s.Given(); n != 0 || ok || s.Room() != 0 {
				t.Errorf("%s: Given %d, %v, Room %d", name, n, ok, s.Room())
			}
			if n, err := s.Deliver(nil); n != 0 || err != api.ErrNil {
				t.Errorf("%s: Deliver of nothing: %d, %d", name, n, err)
			}
			if n, err := s.Deliver(secret.b); n != 0 || err != want {
				t.Errorf("%s: Deliver of %q: %d, %d, want 0, %d", name, text, n, err, want)
			}
			secret.same("behind " + name)
			if n, ok := s.Given(); n != 0 || ok != delivered || s.Room() != 0 {
				t.Errorf("%s, behind %q: Given %d, %v, Room %d", name, text, n, ok, s.Room())
			}
		}
	}
	if string(memory) != "123" {
		t.Errorf("the memory around no bytes is %q", memory)
	}
}

// What no bytes share with their memory is not laid to, also not behind them.
func TestMemoryBehindNoBytes(t *testing.T) {
	for at := range 4 {
		b := newBoth(t, "123", at, at)
		b.answers(secretOf(t, "a"), api.ErrSmall)
		b.answers(secretOf(t, ""), api.OK)
		b.answers(secretOf(t, "a"), api.ErrState)
	}
}

// --- P15.1: Deliver.

// A buffer that is nil goes ahead of all else.
func TestNoBuffer(t *testing.T) {
	for _, room := range []int{0, 1, 5} {
		b := newWhole(t, room)
		b.answers(nil, api.ErrNil)
		b.answers(nil, api.ErrNil)
		b.answers(secretOf(t, "abcdef"), api.ErrSmall)
		b.answers(nil, api.ErrNil)
		b.answers(secretOf(t, "abcde"[:room]), api.OK)
		b.answers(nil, api.ErrNil)
		b.answers(secretOf(t, ""), api.ErrState)
		b.answers(nil, api.ErrNil)
	}
}

// Each secret, its place at each of its characters, into each number of bytes around its own.
func TestAllRooms(t *testing.T) {
	for _, text := range texts() {
		for _, parts := range split(text) {
			for room := range 18 {
				want := api.OK
				if room < len(text) {
					want = api.ErrSmall
				}
				newWhole(t, room).answers(newSecret(t, 20, parts[0], parts[1]), want)
			}
		}
	}
}

// An arena that has no room for more makes no difference.
func TestFullArenas(t *testing.T) {
	for _, text := range texts()[1:] {
		for room := range 18 {
			b := newWhole(t, room)
			b.deliver(newSecret(t, len(text), "", text))
			b.deliver(newSecret(t, len(text), text, ""))
		}
	}
}

func TestManyBytes(t *testing.T) {
	for _, n := range []int{255, 256, 257, api.MaxSecret - 1, api.MaxSecret, api.MaxSecret + 1, api.MaxArena - 1, api.MaxArena} {
		secret := newSecret(t, api.MaxArena, filledText(n/2), filledText(n-n/2))
		for _, room := range []int{0, 1, n - 1, n, n + 1, 2 * n, 1 << 16} {
			want := api.OK
			if room < n {
				want = api.ErrSmall
			}
			newWhole(t, room).answers(secret, want)
		}
	}
}

// filledText is one of so many bytes that may be shown.
func filledText(n int) string {
	var l strings.Builder
	for i := range n {
		l.WriteByte(byte(33 + i%89))
	}
	return l.String()
}

// A secret that is refused leaves the sink as it was.
func TestRefusedAndThenNot(t *testing.T) {
	for room := range 15 {
		for _, first := range texts() {
			for _, next := range texts() {
				b := newWhole(t, room)
				b.deliver(secretOf(t, first))
				b.deliver(secretOf(t, next))
			}
		}
	}
	b := newWhole(t, 3)
	b.answers(secretOf(t, "abcd"), api.ErrSmall)
	b.answers(secretOf(t, "\u00e4\u00f6"), api.ErrSmall)
	b.answers(secretOf(t, filledText(64)), api.ErrSmall)
	b.answers(secretOf(t, "\u20ac"), api.OK)
	b.answers(secretOf(t, "abc"), api.ErrState)
}

// The same buffer, when so much of it is gone that there is room.
func TestOneBufferUpToRoom(t *testing.T) {
	b, secret := newWhole(t, 4), newSecret(t, 20, "a\u00e4b\u20acc", "")
	for _, left := range []string{"a\u00e4b\u20ac", "a\u00e4b"} {
		b.answers(secret, api.ErrSmall)
		secret.b.Do(api.Key{Kind: api.Back})
		secret.ahead = left
	}
	b.answers(secret, api.OK)
	if got := string(b.memory[7:11]); got != "a\u00e4b" {
		t.Errorf("the list is %q", got)
	}
}

// Behind one that was OK all others are refused: the same one, another one, one of no bytes, and one that has too many.
func TestASecondOne(t *testing.T) {
	for _, text := range texts() {
		for _, room := range []int{len(text), len(text) + 1, len(text) + 20} {
			b, first := newWhole(t, room), secretOf(t, text)
			b.answers(first, api.OK)
			b.answers(first, api.ErrState)
			for _, other := range []string{"", "Q", "QQ", text, filledText(room), filledText(room + 1), filledText(64)} {
				b.answers(secretOf(t, other), api.ErrState)
			}
			first.b.Clear()
			first.ahead = ""
			b.answers(first, api.ErrState)
			b.answers(nil, api.ErrNil)
		}
	}
}

// A secret of no bytes is one that was delivered.
func TestASecretOfNoBytes(t *testing.T) {
	for _, room := range []int{0, 1, 5} {
		memory := []byte("1234567")
		s := New(memory[1 : room+1])
		if n, err := s.Deliver(secretOf(t, "").b); n != 0 || err != api.OK {
			t.Errorf("a room of %d: %d, %d", room, n, err)
		}
		if n, ok := s.Given(); n != 0 || !ok {
			t.Errorf("a room of %d: Given %d, %v", room, n, ok)
		}
		for _, text := range []string{"", "a", "abcdef"} {
			if n, err := s.Deliver(secretOf(t, text).b); n != 0 || err != api.ErrState {
				t.Errorf("a room of %d, then %q: %d, %d", room, text, n, err)
			}
		}
		if n, ok := s.Given(); n != 0 || !ok || s.Room() != room || string(memory) != "1234567" {
			t.Errorf("a room of %d: Given %d, %v, Room %d, %q", room, n, ok, s.Room(), memory)
		}
	}
}

// What went from a buffer is not delivered, and where its place is makes no difference.
func TestEditedSecrets(t *testing.T) {
	keys := []api.Key{{C: 'a'}, {C: 0x20ac}, {Kind: api.Left}, {C: 0xe4}, {Kind: api.Home}, {C: 'b'}, {Kind: api.Delete}, {Kind: api.Last}, {C: 0x1f600}, {Kind: api.Back}, {Kind: api.Left}, {Kind: api.KillEnd}, {Kind: api.KillStart}}
	want := []string{"a", "a\u20ac", "a\u20ac", "a\u00e4\u20ac", "a\u00e4\u20ac", "ba\u00e4\u20ac", "b\u00e4\u20ac", "b\u00e4\u20ac", "b\u00e4\u20ac\U0001f600", "b\u00e4\u20ac", "b\u00e4\u20ac", "b\u00e4", ""}
	secret := newSecret(t, 20, "", "")
	for i, k := range keys {
		secret.b.Do(k)
		to := []byte(strings.Repeat("\xff", 12))
		n, err := New(to).Deliver(secret.b)
		if got := string(to); n != len(want[i]) || err != api.OK || got != want[i]+strings.Repeat("\xff", 12-n) {
			t.Errorf("behind the key %d: %d, %d, %q, want %q", i, n, err, got, want[i])
		}
	}
}

// --- P15.1: that very list, not another one.

// What the caller lays into the list ahead of a Deliver, and behind it, stays, but where the secret is laid; the sink lays at the Deliver, and not earlier or later.
func TestTheCallersOwnList(t *testing.T) {
	list := []byte("12345")
	s := New(list)
	copy(list, "ABCDE")
	s.Given()
	s.Room()
	if string(list) != "ABCDE" {
		t.Errorf("ahead of the Deliver: %q", list)
	}
	s.Deliver(secretOf(t, "abcdef").b)
	if string(list) != "ABCDE" {
		t.Errorf("behind one that is refused: %q", list)
	}
	s.Deliver(secretOf(t, "xyz").b)
	if string(list) != "xyzDE" {
		t.Errorf("behind the Deliver: %q", list)
	}
	clear(list)
	s.Deliver(secretOf(t, "uvw").b)
	s.Deliver(nil)
	n, ok := s.Given()
	if string(list) != "\x00\x00\x00\x00\x00" || n != 3 || !ok || s.Room() != 5 {
		t.Errorf("behind the caller's clear: %q, Given %d, %v, Room %d", list, n, ok, s.Room())
	}
}

// What the caller's own variable becomes, the sink doesn't see: its list is the one that it was made of.
func TestAVariableThatIsAnother(t *testing.T) {
	first := []byte("12345")
	list := first
	s := New(list)
	list = append(list[:2], "qrstuvw"...)
	list[0] = 'L'
	s.Deliver(secretOf(t, "abcd").b)
	if s.Room() != 5 || string(first) != "abcd5" || string(list) != "L2qrstuvw" {
		t.Errorf("Room %d, %q, %q", s.Room(), first, list)
	}
}

// Each part of a longer list, with each secret.
func TestPartsOfAList(t *testing.T) {
	const all = "0123456789ABCDEF"
	for from := range len(all) + 1 {
		for to := from; to <= len(all); to++ {
			for _, text := range texts() {
				b := newBoth(t, all, from, to)
				b.deliver(secretOf(t, text))
				b.deliver(secretOf(t, "?"))
			}
		}
	}
}

// What is delivered is the caller's: it stays when the buffer's characters go, and what the caller does to it is not done to the buffer.
func TestWhatIsDeliveredStays(t *testing.T) {
	b, secret := newWhole(t, 9), newSecret(t, 20, "a\u00e4", "\u20acz")
	b.answers(secret, api.OK)
	secret.b.Do(api.Key{Kind: api.KillStart})
	secret.ahead = ""
	secret.same("behind KillStart")
	b.same("a KillStart")
	secret.b.Insert([]byte("QRS")...)
	secret.ahead = "QRS"
	b.same("an Insert")
	secret.b.Clear()
	secret.ahead, secret.behind = "", ""
	secret.same("behind Clear")
	b.same("a Clear")
	if !secret.a.Zero() {
		t.Error("behind a Clear something is in a cell")
	}
	secret.b.Insert([]byte("again")...)
	secret.ahead = "again"
	clear(b.memory)
	b.m.all = string(b.memory)
	secret.same("behind the caller's clear")
	b.same("the caller's clear")
	b.answers(secret, api.ErrState)
}

// --- P15.2: the caller's bytes are changed by a Deliver that answers OK alone, and by no more than the secret's bytes.

// Each byte that the caller may have had, ahead of the list, in it, and behind it.
func TestWhateverTheCallerHad(t *testing.T) {
	for c := range 256 {
		for _, text := range []string{"", "a", "a\u20ac", "\U0010ffff\u00e4", "abcdef", "abcdefg"} {
			b := newBoth(t, strings.Repeat(string([]byte{byte(c)}), 12), 3, 9)
			b.deliver(nil)
			b.deliver(secretOf(t, text))
			b.deliver(secretOf(t, "xy"))
		}
	}
}

// Rows of calls, all of them: nothing, and secrets of 0 to 4 bytes, into 0 to 3.
func TestShortRows(t *testing.T) {
	secrets := []*secret{nil, secretOf(t, ""), secretOf(t, "a"), newSecret(t, 3, "b", "c"), newSecret(t, 3, "", "\u20ac"), newSecret(t, 9, "\u00e4", "de")}
	for room := range 4 {
		for row := range 6 * 6 * 6 * 6 {
			b := newWhole(t, room)
			for rest, n := row, 0; n < 4; rest, n = rest/6, n+1 {
				b.deliver(secrets[rest%6])
			}
		}
	}
}

// Rows of calls by a rule, with keys between them.
func TestCallsOfAllSorts(t *testing.T) {
	seen := map[api.Errno]int{}
	rules := numbers(30000)
	for len(rules) >= 10 {
		room := int(rules[0] >> 40 % 20)
		b, secret := newBoth(t, filled(32), int(rules[0]>>50%8), int(rules[0]>>50%8)+room), secretOf(t, "")
		for _, x := range rules[:10] {
			switch what := x >> 20 % 8; {
			case what == 0:
				b.deliver(nil)
			case what < 4:
				seen[b.deliver(secret)]++
			default:
				l := []string{"a", "\u00e4", "\u20ac", "\U0001f600", "longer", "\u00e4\u20acb"}[x>>30%6]
				if x>>33%5 == 0 {
					secret.b.Do(api.Key{Kind: api.Home})
					secret.ahead, secret.behind = "", secret.text()
				}
				secret.b.Insert([]byte(l)...)
				secret.ahead += l
				secret.same("behind Insert")
			}
		}
		rules = rules[10:]
	}
	for _, err := range []api.Errno{api.OK, api.ErrState, api.ErrSmall} {
		if seen[err] < 500 {
			t.Errorf("a Deliver was %d %d times", err, seen[err])
		}
	}
}

// --- P2: two sinks have nothing to do with one another.

func TestTwoSinks(t *testing.T) {
	secret, long := secretOf(t, "abc"), secretOf(t, "abcdef")
	one, other := newWhole(t, 5), newWhole(t, 9)
	one.answers(long, api.ErrSmall)
	other.same("the other one's Deliver")
	other.answers(long, api.OK)
	one.same("the other one's Deliver")
	one.answers(secret, api.OK)
	other.same("the other one's Deliver")
	other.answers(secret, api.ErrState)
	one.same("the other one's Deliver")
	// One buffer goes to as many sinks as there are.
	for room := range 12 {
		newWhole(t, room).deliver(long)
	}
}

// Of one list, each of the two lays there what it is given, and knows of its own alone.
func TestTwoSinksOfOneList(t *testing.T) {
	list := []byte("12345678")
	one, other := New(list[:5]), New(list[2:])
	if n, err := one.Deliver(secretOf(t, "abcd").b); n != 4 || err != api.OK || string(list) != "abcd5678" {
		t.Errorf("the first one: %d, %d, %q", n, err, list)
	}
	if n, ok := other.Given(); n != 0 || ok {
		t.Errorf("the other one: Given %d, %v", n, ok)
	}
	if n, err := other.Deliver(secretOf(t, "xyz").b); n != 3 || err != api.OK || string(list) != "abxyz678" {
		t.Errorf("the other one: %d, %d, %q", n, err, list)
	}
	if n, ok := one.Given(); n != 4 || !ok || one.Room() != 5 || other.Room() != 6 {
		t.Errorf("the first one: Given %d, %v, Room %d and %d", n, ok, one.Room(), other.Room())
	}
}

// Each by its own goroutine, of parts of one list that stand beside each other.
func TestManyGoroutines(t *testing.T) {
	const each, many = 11, 64
	list := []byte(strings.Repeat("0123456789A", many))
	var all sync.WaitGroup
	for i := range many {
		all.Go(func() {
			part := list[i*each : (i+1)*each]
			for n := range each + 3 {
				copy(part, "0123456789A")
				s, text := New(part), filledText(n)
				a, _ := arena.New(20)
				b, _ := editbuf.New(a)
				b.Insert([]byte(text)...)
				got, err := s.Deliver(b)
				if n > each {
					if got != 0 || err != api.ErrSmall || string(part) != "0123456789A" {
						t.Errorf("%d bytes: %d, %d, %q", n, got, err, part)
					}
					continue
				}
				if got != n || err != api.OK || string(part) != text+"0123456789A"[n:] {
					t.Errorf("%d bytes: %d, %d, %q", n, got, err, part)
				}
			}
		})
	}
	all.Wait()
	// The last ones of each part were refused.
	if string(list) != strings.Repeat("0123456789A", many) {
		t.Errorf("the list is %q", list)
	}
}

func FuzzAgainstModel(f *testing.F) {
	f.Add("12345", 5, 0, "abc", []byte{1})
	f.Add("12345", 5, 0, "abcdef", []byte{1, 9, 2, 1})
	f.Add("123", 0, 0, "", []byte{0, 1, 1})
	f.Add("0123456789", 4, 3, "\u00e4\u20ac\U0001f600", []byte{1, 3, 1, 3, 1, 0, 4, 1})
	f.Fuzz(func(t *testing.T, all string, length, from int, text string, calls []byte) {
		from = max(0, from) % (len(all) + 1)
		length = max(0, length) % (len(all) - from + 1)
		b, secret := newBoth(t, all, from, from+length), newSecret(t, 64, "", "")
		if secret.b.Insert([]byte(text)...) == api.OK {
			secret.ahead = text
		}
		for _, call := range calls {
			switch {
			case call == 0:
				b.deliver(nil)
			case call == 1:
				b.deliver(secret)
			case call == 2:
				secret.b.Clear()
				secret.ahead, secret.behind = "", ""
			case call == 3 && secret.ahead != "":
				secret.b.Do(api.Key{Kind: api.Back})
				l := []rune(secret.ahead)
				secret.ahead = string(l[:len(l)-1])
			case call == 4:
				secret.b.Do(api.Key{Kind: api.Home})
				secret.ahead, secret.behind = "", secret.text()
			case call > 31 && secret.b.Put(int(call)+0x20a0) == api.OK:
				secret.ahead += string(rune(call) + 0x20a0)
			}
			secret.same("behind a call")
		}
		b.same("all")
	})
}
