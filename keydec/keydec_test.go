package keydec

import (
	"regexp"
	"slices"
	"strconv"
	"strings"
	"sync"
	"testing"

	"whisperer/api"
	"whisperer/arena"
)

// The model: the bytes as one text, gone through from the front by a form of what a sequence begins with, and by the set of the beginnings of all characters' bytes.

var front = regexp.MustCompile(`(?s)\A\x1b(?:\[[0-?]*[ -/]*|O)?`)

const greatest = 1114111

var beginnings = sync.OnceValue(func() map[string]bool {
	set := map[string]bool{}
	for c := range greatest + 1 {
		b := string(rune(c))
		for n := 1; n < len(b); n++ {
			set[b[:n]] = true
		}
	}
	return set
})

// modelCharacter is the character whose bytes are all of s: the one that has these again.
func modelCharacter(s string) (int, bool) {
	l := []rune(s)
	if len(l) != 1 || string(l) != s {
		return 0, false
	}
	return int(l[0]), true
}

type model struct {
	rest   string
	pastes bool
}

func (m *model) feed(b string) []api.Key {
	var l []api.Key
	s := m.rest + b
	for s != "" {
		n, over := modelLength(s)
		if !over {
			break
		}
		l = append(l, m.key(s[:n]))
		s = s[n:]
	}
	m.rest = s
	return l
}

func (m *model) finish() []api.Key {
	var l []api.Key
	if strings.HasPrefix(m.rest, "\x1b") {
		l = []api.Key{{Kind: 15}}
	} else if m.rest != "" {
		l = []api.Key{{Kind: 0, C: 65533}}
	}
	m.rest = ""
	return l
}

// modelLength is how many bytes of s are the first sequence, character, or what isn't right; false, if s is a beginning.
func modelLength(s string) (int, bool) {
	if s[0] != 27 {
		longest := 0
		for n := 1; n <= min(4, len(s)); n++ {
			if _, ok := modelCharacter(s[:n]); ok {
				return n, true
			}
			if beginnings()[s[:n]] {
				longest = n
			}
		}
		return max(longest, 1), longest < len(s)
	}
	// No sequence has more than 35 bytes.
	n := min(len(front.FindString(s[:min(len(s), 40)])), 34)
	switch {
	case n == len(s):
		return n, false
	case n > 1 && 64 <= s[n] && s[n] <= 126:
		return n + 1, true
	}
	return n, true
}

// key is the key of a whole one, and what it does to a paste.
func (m *model) key(s string) api.Key {
	kind := 15
	if s[0] == 27 {
		kind = modelSequence(s[1:])
		switch {
		case m.pastes && kind == 14:
			m.pastes = false
		case m.pastes, kind == 14:
			kind = 15
		case kind == 13:
			m.pastes = true
		}
		return api.Key{Kind: kind}
	}
	c, ok := modelCharacter(s)
	if !ok {
		c = 65533
	}
	if modelShown(c) {
		return api.Key{Kind: 0, C: c}
	}
	if !m.pastes {
		kind = modelControl(c)
	}
	return api.Key{Kind: kind}
}

func modelShown(c int) bool {
	return c >= 32 && !(127 <= c && c <= 159)
}

func modelSequence(s string) int {
	switch s {
	case "[C", "OC":
		return 5
	case "[D", "OD":
		return 4
	case "[H", "OH", "[1~", "[7~":
		return 6
	case "[F", "OF", "[4~", "[8~":
		return 7
	case "[3~":
		return 3
	case "[200~":
		return 13
	case "[201~":
		return 14
	}
	return 15
}

func modelControl(c int) int {
	switch c {
	case 13, 10:
		return 1
	case 8, 127:
		return 2
	case 2:
		return 4
	case 6:
		return 5
	case 1:
		return 6
	case 5:
		return 7
	case 21:
		return 8
	case 11:
		return 9
	case 12:
		return 10
	case 3:
		return 11
	case 4:
		return 12
	}
	return 15
}

// both are a decoder, its arena, and the model; each call is made of the two, must answer the same, and must leave the same.
type both struct {
	t     *testing.T
	a     *arena.Arena
	d     *Decoder
	m     model
	cells int
}

func newBoth(t *testing.T, cells int) *both {
	t.Helper()
	a, err := arena.New(cells)
	if err != api.OK {
		t.Fatalf("an arena of %d cells: %d", cells, err)
	}
	d, err := New(a)
	if err != api.OK || d == nil {
		t.Fatalf("New with %d cells: %v, %d", cells, d, err)
	}
	b := &both{t: t, a: a, d: d, cells: cells}
	b.same("New")
	return b
}

// bothWith have been fed with s.
func bothWith(t *testing.T, s string) *both {
	t.Helper()
	b := newBoth(t, 36)
	b.feed(s)
	return b
}

func (b *both) feed(s string) []api.Key {
	b.t.Helper()
	list := []byte(s)
	got, err := b.d.Feed(list...)
	want := b.m.feed(s)
	if err != api.OK || !slices.Equal(got, want) {
		b.t.Fatalf("Feed(%.200q): %.400s, %d, want %.400s", s, say(got), err, say(want))
	}
	if string(list) != s {
		b.t.Fatalf("Feed(%.200q) changed its bytes to %.200q", s, list)
	}
	b.same("Feed")
	return got
}

func (b *both) finish() []api.Key {
	b.t.Helper()
	got, err := b.d.Finish()
	want := b.m.finish()
	if err != api.OK || !slices.Equal(got, want) {
		b.t.Fatalf("Finish: %s, %d, want %s", say(got), err, say(want))
	}
	b.same("Finish")
	return got
}

func (b *both) reset() {
	b.t.Helper()
	b.d.Reset()
	b.m = model{}
	b.same("Reset")
	if !b.a.Zero() {
		b.t.Fatalf("behind a Reset something is in a cell")
	}
}

// same looks at what the decoder tells of itself, and at each of the first cells.
func (b *both) same(call string) {
	b.t.Helper()
	n := len(b.m.rest)
	if b.d.Held() != n || b.a.Len() != n || b.d.Pastes() != b.m.pastes {
		b.t.Fatalf("behind %s: Held %d, the arena's Len %d, Pastes %v, want %q, %v", call, b.d.Held(), b.a.Len(), b.d.Pastes(), b.m.rest, b.m.pastes)
	}
	if n > 34 {
		b.t.Fatalf("behind %s: %d bytes are held", call, n)
	}
	if b.a.Cap() != b.cells || !b.a.Clean() || n == 0 && !b.a.Zero() {
		b.t.Fatalf("behind %s: Cap %d, Clean %v, Zero %v, held %d", call, b.a.Cap(), b.a.Clean(), b.a.Zero(), n)
	}
	for i := range min(b.cells, 40) {
		want := byte(0)
		if i < n {
			want = b.m.rest[i]
		}
		if got, err := b.a.Cell(i); got != want || err != api.OK {
			b.t.Fatalf("behind %s: the cell %d: %d, %d, want %d of %q", call, i, got, err, want, b.m.rest)
		}
	}
}

// say are keys as they are written by hand below.
func say(l []api.Key) string {
	names := []string{"rune", "enter", "back", "delete", "left", "right", "home", "last", "killstart", "killend", "redraw", "cancel", "eof", "pastestart", "pasteend", "ignored"}
	var out []string
	for _, k := range l {
		switch {
		case k.Kind == 0:
			out = append(out, strconv.Itoa(k.C))
		case k.Kind > 0 && k.Kind < len(names) && k.C == 0:
			out = append(out, names[k.Kind])
		default:
			out = append(out, "wrong "+strconv.Itoa(k.Kind)+" "+strconv.Itoa(k.C))
		}
	}
	return strings.Join(out, " ")
}

// checkKeys holds what is fed against an answer by hand: at once, byte by byte, and in two pieces of each sort; then what is held behind it.
func checkKeys(t *testing.T, s, want, held string) {
	t.Helper()
	b := newBoth(t, 36)
	if got := say(b.feed(s)); got != want || b.m.rest != held {
		t.Errorf("%q: %s, held %q, want %s, %q", s, got, b.m.rest, want, held)
	}
	b = newBoth(t, 36)
	var l []api.Key
	for i := range len(s) {
		l = append(l, b.feed(s[i:i+1])...)
	}
	if say(l) != want || b.m.rest != held {
		t.Errorf("%q byte by byte: %s, held %q, want %s, %q", s, say(l), b.m.rest, want, held)
	}
	for cut := range len(s) + 1 {
		b = newBoth(t, 36)
		l = b.feed(s[:cut])
		l = append(slices.Clip(l), b.feed(s[cut:])...)
		if say(l) != want || b.m.rest != held {
			t.Errorf("%q, %q: %s, held %q, want %s, %q", s[:cut], s[cut:], say(l), b.m.rest, want, held)
		}
	}
}

// fifteen are the sequences that are keys, each with its key's name.
func fifteen() map[string]string {
	return map[string]string{"\x1bOC": "right", "\x1bOD": "left", "\x1bOF": "last", "\x1bOH": "home", "\x1b[1~": "home", "\x1b[200~": "pastestart", "\x1b[201~": "pasteend", "\x1b[3~": "delete", "\x1b[4~": "last", "\x1b[7~": "home", "\x1b[8~": "last", "\x1b[C": "right", "\x1b[D": "left", "\x1b[F": "last", "\x1b[H": "home"}
}

// edges are the bytes about which something changes, with their neighbours, and those that sequences are made of.
func edges() []byte {
	return []byte{0, 3, 10, 13, 27, 31, 32, 47, 48, 49, 50, 63, 64, 65, 67, 79, 91, 126, 127, 128, 143, 144, 159, 160, 191, 192, 193, 194, 195, 223, 224, 225, 237, 239, 240, 244, 245, 255}
}

// parts are what texts of all sorts are laid up of.
func parts() []string {
	return []string{
		"a", "~", "C", "0", " ", "[", "O", "\x00", "\x03", "\x04", "\x08", "\n", "\x0b", "\x0c", "\r", "\x15", "\x7f", "\u0080", "\u009f", "\u00a0", "\u00e4", "\u20ac", "\ufffd", "\U0001f600", "\U0010ffff",
		"\xc3", "\xe2", "\xe2\x82", "\xf0", "\xf0\x9f", "\xf0\x9f\x98", "\x80", "\xbf", "\xff", "\xc0\x80", "\xed\xa0\x80", "\xe0\x80", "\xf4\x90",
		"\x1b", "\x1b[", "\x1bO", "\x1b[3", "\x1b[20", "\x1b[200", "\x1b[201", "\x1b[C", "\x1bOD", "\x1b[3~", "\x1b[1~", "\x1b[4~", "\x1b[200~", "\x1b[201~", "\x1b[200~", "\x1b[201~", "\x1b[A", "\x1b[1;5C", "\x1b[ q", "\x1b[3 0~", "\x1bO1", "\x1ba", "\x1b\x1b",
		"\x1b[" + strings.Repeat("1", 32), "\x1b[" + strings.Repeat(" ", 33), strings.Repeat("1;", 9),
	}
}

// numbers are n of 64 bits, of all sorts, by a rule.
func numbers(n int) []uint64 {
	l := make([]uint64, n)
	x := uint64(1)
	for i := range l {
		x = x*6364136223846793005 + 1442695040888963407
		l[i] = x ^ x>>29
	}
	return l
}

// texts are n of all sorts, laid up of parts by a rule.
func texts(n int) []string {
	all, from := parts(), numbers(n*12)
	l := make([]string, n)
	for i := range l {
		for j := range int(from[i*12]%11) + 1 {
			l[i] += all[from[i*12+j+1]>>20%uint64(len(all))]
		}
	}
	return l
}

func TestExamples(t *testing.T) {
	b := bothWith(t, "\x1b[")
	if got := say(b.feed("D")); got != "left" {
		t.Errorf("27 91, then 68: %s", got)
	}
	b = bothWith(t, "\xe2\x82")
	if got := say(b.feed("A")); got != "65533 65" {
		t.Errorf("226 130, then 65: %s", got)
	}
	checkKeys(t, "\x1b[200~\ra\x1b[201~", "pastestart ignored 97 pasteend", "")
	// Of the whole.
	checkKeys(t, "\x1b[3~", "delete", "")
	checkKeys(t, "\x1ba", "ignored 97", "")
	checkKeys(t, "\xe2\x82A", "65533 65", "")
}

// P10.1: New.

func TestNewOfNoArena(t *testing.T) {
	if d, err := New(nil); d != nil || err != api.ErrNil {
		t.Errorf("New(nil): %v, %d", d, err)
	}
}

// One that has too few cells is left as it was.
func TestNewWithTooFewCells(t *testing.T) {
	for cells := 1; cells <= 35; cells++ {
		for _, used := range []int{0, 1, cells} {
			a, _ := arena.New(cells)
			a.Insert(0, []byte(strings.Repeat("x", used))...)
			if d, err := New(a); d != nil || err != api.ErrSmall {
				t.Errorf("%d cells: %v, %d", cells, d, err)
			}
			to := make([]byte, cells)
			if n := a.Copy(to); n != used || strings.Count(string(to), "x") != used {
				t.Errorf("%d cells, %d bytes: %d are left, %q", cells, used, n, to)
			}
		}
	}
}

func TestNewWithEnoughCells(t *testing.T) {
	for _, cells := range []int{36, 37, 64, 1024, 4095, 4096} {
		b := newBoth(t, cells)
		b.feed("a\x1b[" + strings.Repeat("0", 32))
		b.feed("\x1b[200~\u00e4\xf0\x9f\x98")
		b.finish()
		b.feed("\x1b[" + strings.Repeat(" ", 40) + "\x1b[2")
		b.reset()
	}
}

// An arena that isn't empty is Wiped, and none of its bytes goes on.
func TestNewOfAnArenaThatIsntEmpty(t *testing.T) {
	for _, was := range []string{"a", "\x1b[", "\xe2\x82", "\x1b[200~", strings.Repeat("\xff", 36)} {
		a, _ := arena.New(36)
		a.Insert(0, []byte(was)...)
		d, err := New(a)
		if err != api.OK || !a.Zero() || a.Len() != 0 || d.Held() != 0 || d.Pastes() {
			t.Fatalf("an arena of %q: %d, Len %d, Held %d, Pastes %v", was, err, a.Len(), d.Held(), d.Pastes())
		}
		b := &both{t: t, a: a, d: d, cells: 36}
		b.finish()
		if got := say(b.feed("D\xac")); got != "68 65533" {
			t.Errorf("an arena of %q: %s", was, got)
		}
	}
}

// Another decoder of an arena begins without what the first one held.
func TestNewOfAnArenaOnceMore(t *testing.T) {
	b := bothWith(t, "\x1b[200~\x1b[20")
	d, err := New(b.a)
	if err != api.OK || d.Pastes() || d.Held() != 0 || !b.a.Zero() {
		t.Fatalf("once more: %d, Pastes %v, Held %d", err, d.Pastes(), d.Held())
	}
	next := &both{t: t, a: b.a, d: d, cells: 36}
	if got := say(next.feed("1~\r")); got != "49 126 enter" {
		t.Errorf("once more: %s", got)
	}
}

func TestNilDecoder(t *testing.T) {
	var d *Decoder
	for _, b := range [][]byte{nil, {}, []byte("a"), []byte("\x1b[C"), []byte("\x1b[200~"), []byte("\xe2"), make([]byte, 5000)} {
		before := slices.Clone(b)
		if l, err := d.Feed(b...); len(l) != 0 || err != api.ErrNil || !slices.Equal(b, before) {
			t.Errorf("Feed(%.20q): %v, %d", b, l, err)
		}
		if l, err := d.Finish(); len(l) != 0 || err != api.ErrNil {
			t.Errorf("Finish: %v, %d", l, err)
		}
		d.Reset()
		if d.Held() != 0 || d.Pastes() {
			t.Errorf("Held %d, Pastes %v", d.Held(), d.Pastes())
		}
	}
}

// P10.1: Feed.

// No bytes end nothing, and leave all as it is.
func TestNoBytes(t *testing.T) {
	for _, ahead := range []string{"", "a", "\x1b", "\x1b[3", "\xf0\x9f", "\x1b[200~", "\x1b[200~\x1b[201", "\x1b[" + strings.Repeat("1", 32)} {
		b := bothWith(t, ahead)
		for _, none := range [][]byte{nil, {}, []byte("~")[:0], []byte("C")[1:]} {
			if l, err := b.d.Feed(none...); len(l) != 0 || err != api.OK {
				t.Errorf("%q, then no bytes: %v, %d", ahead, l, err)
			}
			if l, err := b.d.Feed(); len(l) != 0 || err != api.OK {
				t.Errorf("%q, then nothing: %v, %d", ahead, l, err)
			}
			b.same("Feed of no bytes")
		}
		b.feed("~")
	}
}

// Each byte below 128 but ESC, by hand.
func TestBytesByHand(t *testing.T) {
	names := map[int]string{13: "enter", 10: "enter", 8: "back", 127: "back", 2: "left", 6: "right", 1: "home", 5: "last", 21: "killstart", 11: "killend", 12: "redraw", 3: "cancel", 4: "eof"}
	for c := range 128 {
		if c == 27 {
			continue
		}
		want, ok := names[c]
		if !ok {
			want = "ignored"
		}
		inPaste := "ignored"
		if c >= 32 && c < 127 {
			want = strconv.Itoa(c)
			inPaste = want
		}
		checkKeys(t, string(rune(c)), want, "")
		checkKeys(t, string(rune(c))+"x"+string(rune(c)), want+" 120 "+want, "")
		checkKeys(t, "\x1b[200~"+string(rune(c)), "pastestart "+inPaste, "")
		checkKeys(t, "\x1b[200~\x1b[201~"+string(rune(c)), "pastestart pasteend "+want, "")
	}
}

// Characters on both sides of each border, that may and that may not be shown, with and without a paste begun.
func TestCharactersByHand(t *testing.T) {
	for _, x := range []struct {
		c    int
		want string
	}{
		{0, "ignored"}, {31, "ignored"}, {32, "32"}, {126, "126"}, {128, "ignored"}, {133, "ignored"}, {155, "ignored"}, {159, "ignored"},
		{160, "160"}, {161, "161"}, {173, "173"}, {228, "228"}, {255, "255"}, {256, "256"}, {2047, "2047"}, {2048, "2048"}, {8203, "8203"}, {8232, "8232"}, {8364, "8364"},
		{55295, "55295"}, {57344, "57344"}, {65279, "65279"}, {65532, "65532"}, {65533, "65533"}, {65534, "65534"}, {65535, "65535"}, {65536, "65536"}, {128512, "128512"}, {1114110, "1114110"}, {1114111, "1114111"},
	} {
		s := string(rune(x.c))
		checkKeys(t, s, x.want, "")
		checkKeys(t, s+s, x.want+" "+x.want, "")
		checkKeys(t, "\x1b[C"+s+"\x1b[D", "right "+x.want+" left", "")
		checkKeys(t, "\x1b[200~"+s+"\x1b[201~"+s, "pastestart "+x.want+" pasteend "+x.want, "")
	}
}

// All characters but ESC, as they are and in a paste.
func TestAllCharacters(t *testing.T) {
	plain, pasted := bothWith(t, ""), bothWith(t, "\x1b[200~")
	for c := range greatest + 1 {
		if c == 27 || 55296 <= c && c <= 57343 {
			continue
		}
		s := string(rune(c))
		kind := modelControl(c)
		if modelShown(c) {
			kind = api.Rune
		}
		want, wantPasted := api.Key{Kind: kind}, api.Key{Kind: api.Ignored}
		if kind == api.Rune {
			want.C = c
			wantPasted = want
		}
		if l, err := plain.d.Feed([]byte(s)...); err != api.OK || !slices.Equal(l, []api.Key{want}) {
			t.Fatalf("the character %d: %s, %d", c, say(l), err)
		}
		if l, err := pasted.d.Feed([]byte(s)...); err != api.OK || !slices.Equal(l, []api.Key{wantPasted}) {
			t.Fatalf("the character %d in a paste: %s, %d", c, say(l), err)
		}
	}
	plain.same("all characters")
	pasted.same("all characters")
}

func TestSequencesByHand(t *testing.T) {
	for s, name := range fifteen() {
		want := name
		if name == "pasteend" {
			want = "ignored"
		}
		checkKeys(t, s, want, "")
		checkKeys(t, "x"+s, "120 "+want, "")
		checkKeys(t, "\u20ac"+s+"\x1b", "8364 "+want, "\x1b")
	}
	for s, want := range map[string]string{
		// They end, and are no keys.
		"\x1b[A": "ignored", "\x1bOA": "ignored", "\x1b[1;5C": "ignored", "\x1b[ C": "ignored", "\x1b[33~": "ignored", "\x1b[202~": "ignored", "\x1b[0200~": "ignored", "\x1b[200;1~": "ignored", "\x1b[200 ~": "ignored", "\x1b[[": "ignored", "\x1bO[": "ignored", "\x1b[?2004h": "ignored",
		// They break off, and what they don't have goes on by itself.
		"\x1ba": "ignored 97", "\x1b\x1b[C": "ignored right", "\x1b\x1b\x1bOD": "ignored ignored left", "\x1b\r": "ignored enter", "\x1b[3\n": "ignored enter", "\x1b[3 0~": "ignored 48 126", "\x1bO1~": "ignored 49 126", "\x1b[\x7f": "ignored back", "\x1b[2\x1b[D": "ignored left", "\x1bO\x1bOC": "ignored right", "\x1b[\u00e4": "ignored 228", "\x1b[\xff~": "ignored 65533 126", "\x1b\u20ac": "ignored 8364", "\x1b[200\x03~": "ignored cancel 126", "\x1b]0": "ignored 93 48", "\x1b~": "ignored 126",
	} {
		checkKeys(t, s, want, "")
	}
}

// What isn't right is the Rune of 65533, for as many bytes as are a beginning, also ahead of a sequence.
func TestWhatIsntRightByHand(t *testing.T) {
	for _, x := range []struct{ s, want, held string }{
		{"\xff", "65533", ""}, {"\xfe", "65533", ""}, {"\x80", "65533", ""}, {"\xbf", "65533", ""}, {"\xc0", "65533", ""}, {"\xc1", "65533", ""}, {"\xf5", "65533", ""},
		{"\xff\xff", "65533 65533", ""}, {"\x80\x80\x80", "65533 65533 65533", ""},
		{"\xc3A", "65533 65", ""}, {"\xc3\xc3\xa4", "65533 228", ""}, {"\xc3\xff", "65533 65533", ""}, {"\xc3\x1b[C", "65533 right", ""}, {"\xc3\r", "65533 enter", ""},
		{"\xe2\x82A", "65533 65", ""}, {"\xe2A", "65533 65", ""}, {"\xe2\x82\x1b", "65533", "\x1b"}, {"\xe2\x82\xe2\x82", "65533", "\xe2\x82"}, {"\xe2\x82\xff\x82", "65533 65533 65533", ""},
		{"\xf0\x9f\x98A", "65533 65", ""}, {"\xf0\x9f\x98\xf0", "65533", "\xf0"}, {"\xf0\x9fA", "65533 65", ""}, {"\xf0A", "65533 65", ""}, {"\xf0\x9f\x98\xc3\xa4", "65533 228", ""},
		{"\xe0\x80", "65533 65533", ""}, {"\xe0\x9f\xbf", "65533 65533 65533", ""}, {"\xed\xa0\x80", "65533 65533 65533", ""}, {"\xf0\x8f\xbf\xbf", "65533 65533 65533 65533", ""}, {"\xf4\x90\x80\x80", "65533 65533 65533 65533", ""}, {"\xc0\x80", "65533 65533", ""},
		{"\xf4\x8f\xbf\xbe", "1114110", ""}, {"\xed\x9f\xbf", "55295", ""}, {"\xef\xbf\xbd", "65533", ""}, {"\xff\x1b\x1b[C", "65533 ignored right", ""},
		{"a\xc3", "97", "\xc3"}, {"\x1b[C\xf4\x8f\xbf", "right", "\xf4\x8f\xbf"},
	} {
		checkKeys(t, x.s, x.want, x.held)
		checkKeys(t, "\x1b[200~"+x.s, strings.ReplaceAll(strings.ReplaceAll("pastestart "+x.want, "enter", "ignored"), "right", "ignored"), x.held)
	}
}

// What is begun, cut anywhere, ends nothing; it is held, and goes on with the rest, whatever comes behind that.
func TestCutAndGoneOn(t *testing.T) {
	for _, s := range append(wholes(), "\x1b["+strings.Repeat("1", 32)+"~", "\x1b["+strings.Repeat("5;", 16)+"C", "\x1b["+strings.Repeat("1", 20)+strings.Repeat(" ", 12)+"@") {
		for cut := 1; cut < len(s); cut++ {
			for _, tail := range []string{"", "x", "\x1b[C", "\x1b", "\xe2"} {
				for _, ahead := range []string{"", "\x1b[200~"} {
					b := bothWith(t, ahead)
					if l := b.feed(s[:cut]); len(l) != 0 || b.d.Held() != cut {
						t.Errorf("%q: %s, Held %d", s[:cut], say(l), b.d.Held())
					}
					if l := b.feed(s[cut:] + tail); len(l) == 0 || l[0] != (&model{pastes: ahead != ""}).key(s) {
						t.Errorf("%q, %q: %s", s[:cut], s[cut:]+tail, say(l))
					}
				}
			}
		}
	}
}

// wholes are characters and sequences of more than one byte.
func wholes() []string {
	l := []string{"\u0080", "\u00e4", "\u07ff", "\u0800", "\u20ac", "\ud7ff", "\ue000", "\ufffd", "\U00010000", "\U0001f600", "\U0010ffff", "\x1b[A", "\x1b[1;5C", "\x1b[ q", "\x1bOA"}
	for s := range fifteen() {
		l = append(l, s)
	}
	return l
}

// What is begun, cut anywhere, and then each byte: one key is what was begun, if that byte doesn't go on.
func TestCutAndEachByte(t *testing.T) {
	for _, s := range append(wholes(), "\x1b["+strings.Repeat("1", 32)+"~") {
		for cut := 1; cut < len(s); cut++ {
			for c := range 256 {
				b := bothWith(t, s[:cut])
				l := b.feed(string([]byte{byte(c)}))
				if len(l) > 2 || len(l) == 0 && b.d.Held() != cut+1 || len(l) == 2 && b.d.Held() != 0 {
					t.Errorf("%q, %d: %s, Held %d", s[:cut], c, say(l), b.d.Held())
				}
				b.feed("x")
				b.finish()
			}
		}
	}
}

// Behind what doesn't go on, by hand: what was begun is one key, and the byte is its own.
func TestCutAndNotGoneOn(t *testing.T) {
	for _, s := range wholes() {
		want := "65533"
		if s[0] == 27 {
			want = "ignored"
		}
		for cut := 1; cut < len(s); cut++ {
			for _, x := range []struct{ tail, key, pasted string }{
				{"\r", "enter", "ignored"},
				{"\x03", "cancel", "ignored"},
				{"\x00", "ignored", "ignored"},
				{"\x7f", "back", "ignored"},
				{"\xff", "65533", "65533"},
				{"\u00e4", "228", "228"},
				{"\x1b[D", "left", "ignored"},
				{"\x1b[201~", "ignored", "pasteend"},
			} {
				b := bothWith(t, s[:cut])
				if got := say(b.feed(x.tail)); got != want+" "+x.key {
					t.Errorf("%q, %q: %s, want %s %s", s[:cut], x.tail, got, want, x.key)
				}
				b = bothWith(t, "\x1b[200~"+s[:cut])
				if got := say(b.feed(x.tail)); got != want+" "+x.pasted {
					t.Errorf("in a paste %q, %q: %s, want %s %s", s[:cut], x.tail, got, want, x.pasted)
				}
			}
		}
	}
}

// P10.1: Finish.

func TestFinishOfNothing(t *testing.T) {
	for _, ahead := range []string{"", "a", "\x1b[C", "\u00e4", "\xff", "\x1b[200~", "\x1b[200~a\r", "\x1b[200~\x1b[201~", "\x1ba", "\x1b[" + strings.Repeat("1", 33)} {
		b := bothWith(t, ahead)
		for range 3 {
			if l := b.finish(); len(l) != 0 {
				t.Errorf("%q, Finish: %s", ahead, say(l))
			}
		}
	}
}

// What is begun, cut anywhere, is one key at the end; once, and nothing of it goes on.
func TestFinishBehindACut(t *testing.T) {
	for _, s := range append(wholes(), "\x1b["+strings.Repeat("1", 32)+"~", "\x1b["+strings.Repeat(" ", 32)+"~") {
		want := "65533"
		if s[0] == 27 {
			want = "ignored"
		}
		for cut := 1; cut < len(s); cut++ {
			for _, ahead := range []string{"", "a", "\x1b[200~", "\x1b[200~\x1b[201~", "\x1b[C"} {
				b := bothWith(t, ahead+s[:cut])
				pasted := b.d.Pastes()
				if got := say(b.finish()); got != want || !b.a.Zero() || b.d.Held() != 0 {
					t.Errorf("%q, Finish: %s, want %s; Held %d", ahead+s[:cut], got, want, b.d.Held())
				}
				if b.d.Pastes() != pasted {
					t.Errorf("%q, Finish: Pastes %v", ahead+s[:cut], b.d.Pastes())
				}
				if l := b.finish(); len(l) != 0 {
					t.Errorf("%q, Finish twice: %s", ahead+s[:cut], say(l))
				}
				b.feed(s[cut:] + s)
			}
		}
	}
	b := bothWith(t, "\x1b[")
	b.finish()
	if got := say(b.feed("D")); got != "68" {
		t.Errorf("27 91, Finish, 68: %s", got)
	}
	b = bothWith(t, "\xe2\x82")
	b.finish()
	if got := say(b.feed("\xac")); got != "65533" {
		t.Errorf("226 130, Finish, 172: %s", got)
	}
}

// A paste that is begun is begun still behind a Finish.
func TestFinishInAPaste(t *testing.T) {
	b := bothWith(t, "\x1b[200~\x1b[201")
	if got := say(b.finish()); got != "ignored" || !b.d.Pastes() {
		t.Errorf("Finish in a paste: %s, Pastes %v", got, b.d.Pastes())
	}
	if got := say(b.feed("~\r\x1b[201~\r")); got != "126 ignored pasteend enter" {
		t.Errorf("behind it: %s", got)
	}
}

// A sequence of as many parameters and others as there may be, and one more, in all shares of both.
func TestAsManyAsThereMayBe(t *testing.T) {
	for params := range 33 {
		s := "\x1b[" + strings.Repeat("1", params) + strings.Repeat(" ", 32-params)
		checkKeys(t, s, "", s)
		checkKeys(t, s+"~", "ignored", "")
		checkKeys(t, s+"~~", "ignored 126", "")
		checkKeys(t, s+"C\x1b[C", "ignored right", "")
		checkKeys(t, s+" ", "ignored 32", "")
		checkKeys(t, s+"1", "ignored 49", "")
		checkKeys(t, s+"1~", "ignored 49 126", "")
		checkKeys(t, s+"\x1b", "ignored", "\x1b")
		checkKeys(t, s+"\x1b[D", "ignored left", "")
		checkKeys(t, s+"\xe2", "ignored", "\xe2")
		checkKeys(t, s+"\u20ac", "ignored 8364", "")
		checkKeys(t, s+"\xff", "ignored 65533", "")
		checkKeys(t, s+"\r", "ignored enter", "")
		checkKeys(t, "\x1b[200~"+s+"1\r", "pastestart ignored 49 ignored", "")
		b := bothWith(t, s)
		if got := say(b.finish()); got != "ignored" {
			t.Errorf("%q, Finish: %s", s, got)
		}
		b = bothWith(t, s+"3")
		if l := b.finish(); len(l) != 0 {
			t.Errorf("%q, Finish: %s", s+"3", say(l))
		}
	}
	// As many as there may be, each with all bytes behind it, held and gone on with.
	for _, body := range []string{strings.Repeat("0", 31), strings.Repeat("0", 32), strings.Repeat("?", 32), strings.Repeat("/", 32), "3" + strings.Repeat(" ", 31), "200" + strings.Repeat(";", 29)} {
		for c := range 256 {
			b := bothWith(t, "\x1b["+body)
			b.feed(string([]byte{byte(c)}))
			b.feed("~\x1b[3~")
		}
	}
}

// Pastes.

func TestPastesByHand(t *testing.T) {
	for _, x := range []struct {
		s, want string
		pastes  bool
	}{
		{"", "", false},
		{"\x1b[200~", "pastestart", true},
		{"\x1b[201~", "ignored", false},
		{"\x1b[200~\x1b[201~", "pastestart pasteend", false},
		{"\x1b[200~\x1b[200~", "pastestart ignored", true},
		{"\x1b[200~\x1b[200~\x1b[201~", "pastestart ignored pasteend", false},
		{"\x1b[200~\x1b[200~\x1b[201~\x1b[201~", "pastestart ignored pasteend ignored", false},
		{"\x1b[201~\x1b[200~", "ignored pastestart", true},
		{"\x1b[201~\x1b[201~\x1b[200~a\x1b[201~b", "ignored ignored pastestart 97 pasteend 98", false},
		{"\x1b[200~\x1b[201~\x1b[200~\x1b[201~\x1b[200~", "pastestart pasteend pastestart pasteend pastestart", true},
		{"\x1b[200~\x03\x04\r\n\x7f\x08\x15\x01\x1b[201~\x03", "pastestart ignored ignored ignored ignored ignored ignored ignored ignored pasteend cancel", false},
		{"\x1b[200~a\u00e4\u0085\u20ac\x00\U0001f600", "pastestart 97 228 ignored 8364 ignored 128512", true},
		// A start and an end that break off, or are nearly ones.
		{"\x1b[200\x1b[200~", "ignored pastestart", true},
		{"\x1b[200~\x1b[201\x1b[201~", "pastestart ignored pasteend", false},
		{"\x1b[200~\x1b[201\r~", "pastestart ignored ignored 126", true},
		{"\x1b[200~\x1b[201;1~\x1b[0201~\x1b[201 ~\x1b[201^\x1bO201~", "pastestart ignored ignored ignored ignored ignored 50 48 49 126", true},
		{"\x1b[200^\x1b[0200~\x1b[200;~\x1bO200~", "ignored ignored ignored ignored 50 48 48 126", false},
		{"\x1b\x1b[200~\x1b\x1b[201~", "ignored pastestart ignored pasteend", false},
		{"\x1b[200~\xe2\x82\x1b[201~\xc3\x1b[200~", "pastestart 65533 pasteend 65533 pastestart", true},
	} {
		checkKeys(t, x.s, x.want, "")
		if b := bothWith(t, x.s); b.d.Pastes() != x.pastes {
			t.Errorf("%q: Pastes %v", x.s, b.d.Pastes())
		}
	}
}

// A paste isn't begun, nor over, ahead of the last byte of what tells it.
func TestPasteInPieces(t *testing.T) {
	start, end := "\x1b[200~", "\x1b[201~"
	for cut := range start {
		b := bothWith(t, start[:cut])
		if b.d.Pastes() {
			t.Errorf("%q: a paste is begun", start[:cut])
		}
		if got := say(b.feed(start[cut:])); got != "pastestart" || !b.d.Pastes() {
			t.Errorf("%q, %q: %s, Pastes %v", start[:cut], start[cut:], got, b.d.Pastes())
		}
		b.feed(end[:cut])
		if !b.d.Pastes() {
			t.Errorf("%q: the paste is over", end[:cut])
		}
		if got := say(b.feed(end[cut:])); got != "pasteend" || b.d.Pastes() {
			t.Errorf("%q, %q: %s, Pastes %v", end[:cut], end[cut:], got, b.d.Pastes())
		}
		b.feed(end[:cut])
		if got := say(b.feed(end[cut:])); got != "ignored" || b.d.Pastes() {
			t.Errorf("%q, %q, none begun: %s, Pastes %v", end[:cut], end[cut:], got, b.d.Pastes())
		}
		b.feed(start + start[:cut])
		if got := say(b.feed(start[cut:])); got != "ignored" || !b.d.Pastes() {
			t.Errorf("%q, %q, one begun: %s, Pastes %v", start[:cut], start[cut:], got, b.d.Pastes())
		}
	}
}

// Each sequence that is a key is Ignored in a paste, but the one that ends it.
func TestSequencesInAPaste(t *testing.T) {
	for s, name := range fifteen() {
		if name == "pasteend" {
			continue
		}
		checkKeys(t, "\x1b[200~"+s, "pastestart ignored", "")
		checkKeys(t, "\x1b[200~a"+s+s+"b\x1b[201~", "pastestart 97 ignored ignored 98 pasteend", "")
	}
	checkKeys(t, "\x1b[200~\x1b[A\x1b[1;5C\x1bOA\x1ba\x1b[3\n\x1b", "pastestart ignored ignored ignored ignored 97 ignored ignored", "\x1b")
}

// P10.2.

func TestReset(t *testing.T) {
	for _, ahead := range []string{"", "a", "\x1b", "\x1b[20", "\xf0\x9f", "\x1b[200~", "\x1b[200~a", "\x1b[200~\x1b[20", "\x1b[200~\xe2\x82", "\x1b[200~\x1b[201~", "\x1b[200~\x1b[" + strings.Repeat("9", 32)} {
		b := bothWith(t, ahead)
		b.reset()
		if b.d.Held() != 0 || b.d.Pastes() || !b.a.Zero() || b.a.Len() != 0 {
			t.Errorf("%q, Reset: Held %d, Pastes %v", ahead, b.d.Held(), b.d.Pastes())
		}
		b.reset()
		if l := b.finish(); len(l) != 0 {
			t.Errorf("%q, Reset, Finish: %s", ahead, say(l))
		}
		if got := say(b.feed("1~\r\x1b[C\x1b[201~\x1b[200~\r")); got != "49 126 enter right ignored pastestart ignored" {
			t.Errorf("%q, Reset: %s", ahead, got)
		}
	}
	b := bothWith(t, "\x1b[200~\xe2\x82")
	b.reset()
	if got := say(b.feed("\xac\x03")); got != "65533 cancel" {
		t.Errorf("behind a Reset: %s", got)
	}
}

func TestHeldByHand(t *testing.T) {
	for s, want := range map[string]int{"": 0, "a": 0, "\x1b": 1, "\x1b[": 2, "\x1bO": 2, "\x1b[2": 3, "\x1b[200": 5, "\x1b[200~": 0, "\x1b[C": 0, "\x1b\x1b": 1, "\x1b[\x1b": 1, "\x1ba": 0, "\xc3": 1, "\xe2\x82": 2, "\xf0\x9f\x98": 3, "\xf0\x9f\x98\x80": 0, "\xff": 0, "\xe2\x82\xe2": 1, "ab\x1b[3": 3, "\x1b[200~\x1b[201": 5, "\x1b[200~a\xe2\x82": 2, "\x1b[" + strings.Repeat("1", 32): 34, "\x1b[" + strings.Repeat("1", 33): 0, "\x1b[" + strings.Repeat(" ", 32) + "\x1b[": 2} {
		b := bothWith(t, s)
		if b.d.Held() != want || b.a.Len() != want {
			t.Errorf("%q: Held %d, the arena's Len %d, want %d", s, b.d.Held(), b.a.Len(), want)
		}
		to := make([]byte, 36)
		if n := b.a.Copy(to); string(to[:n]) != s[len(s)-want:] {
			t.Errorf("%q: the arena has %q", s, to[:n])
		}
	}
}

// P10.3.

// The same bytes in one piece, in two and three of each sort, and byte by byte, have the same keys, and leave the same.
func TestPieces(t *testing.T) {
	for _, s := range texts(250) {
		var whole model
		want := whole.feed(s)
		look := func(pieces ...string) {
			b := newBoth(t, 36)
			var l []api.Key
			for _, p := range pieces {
				l = append(l, b.feed(p)...)
			}
			if !slices.Equal(l, want) || b.m != whole {
				t.Fatalf("%q: %s, %v, want %s, %v", pieces, say(l), b.m, say(want), whole)
			}
			b.finish()
		}
		look(s)
		look(strings.Split(s, "")...)
		for i := range len(s) + 1 {
			look(s[:i], s[i:])
			for j := i; j <= min(len(s), i+12); j++ {
				look(s[:i], s[i:j], "", s[j:])
			}
		}
	}
}

// Texts by a rule, in pieces by a rule, with Finish and Reset between, all by one decoder.
func TestTurnsOfAllSorts(t *testing.T) {
	seen := map[int]int{}
	longest := 0
	b := newBoth(t, 36)
	rules := numbers(20000)
	for i, s := range texts(20000) {
		for s != "" {
			n := min(len(s), int(rules[i]>>8%7)+1)
			for _, k := range b.feed(s[:n]) {
				seen[k.Kind]++
			}
			longest = max(longest, b.d.Held())
			s = s[n:]
		}
		switch rules[i] >> 40 % 16 {
		case 0:
			b.finish()
		case 1:
			b.reset()
		}
	}
	for kind := range 16 {
		if seen[kind] < 100 {
			t.Errorf("%d keys of the kind %d", seen[kind], kind)
		}
	}
	if longest != 34 {
		t.Errorf("at most %d bytes were held", longest)
	}
}

// All rows of edges, of three, and of two behind some beginnings.
func TestRowsOfEdges(t *testing.T) {
	l := edges()
	for _, x := range l {
		for _, y := range l {
			for _, ahead := range []string{"", "\x1b[", "\x1bO", "\x1b[3", "\x1b[ ", "\xe2\x82", "\xf0\x9f", "\x1b[200~", "\x1b[200~\x1b[201", "\x1b[" + strings.Repeat("1", 31)} {
				b := bothWith(t, ahead)
				b.feed(string([]byte{x}))
				b.feed(string([]byte{y}))
				b.finish()
			}
			for _, z := range l {
				b := newBoth(t, 36)
				b.feed(string([]byte{x, y, z}))
				b.finish()
			}
		}
	}
}

// At most MaxParams and 2 bytes are held, whatever row it is, and of each length up to that there is one.
func TestTheMostThatIsHeld(t *testing.T) {
	for _, part := range []string{"0", "?", " ", "/", "1;", "\x1b", "[", "O", "~", "\x1b[", "\x1bO", "0 ", "a", "\n", "\xff", "\xe2", "\xf0\x9f\x98"} {
		for _, ahead := range []string{"\x1b[", "\x1b", "\x1bO", "\x1b[1", "\x1b[1 ", "", "\x1b[200~\x1b["} {
			b := bothWith(t, ahead)
			for range 80 {
				b.feed(part)
			}
			b = bothWith(t, ahead+strings.Repeat(part, 80))
			b.finish()
		}
	}
	seen := map[int]bool{}
	b := bothWith(t, "\x1b[")
	for range 40 {
		seen[b.d.Held()] = true
		b.feed("0")
	}
	for n := 2; n <= 34; n++ {
		if !seen[n] {
			t.Errorf("no %d bytes are held", n)
		}
	}
	if seen[35] || seen[36] {
		t.Error("more than 34 bytes are held")
	}
}

// What is handed in isn't changed, and may be changed then; what lies behind its length plays no part.
func TestWhatIsHandedIn(t *testing.T) {
	memory := []byte("\x1b[3~\x1b[C")
	b := newBoth(t, 36)
	l, err := b.d.Feed(memory[:3]...)
	if len(l) != 0 || err != api.OK || b.d.Held() != 3 || string(memory) != "\x1b[3~\x1b[C" {
		t.Fatalf("%s, %d, Held %d, %q", say(l), err, b.d.Held(), memory)
	}
	copy(memory, "xxxxxxx")
	if l, err = b.d.Feed('~'); say(l) != "delete" || err != api.OK || string(memory) != "xxxxxxx" {
		t.Errorf("%s, %d, %q", say(l), err, memory)
	}
}

// Each answer is the caller's own: who changes it, or goes on behind it, changes no other one, nor the decoder.
func TestAnswersAreTheCallers(t *testing.T) {
	wrong := api.Key{Kind: 99, C: 99}
	b := newBoth(t, 36)
	first := b.feed("ab\x1b[C\xe2")
	second := b.feed("\x82\xac\x1b[20")
	for i := range first {
		first[i] = wrong
	}
	_ = append(first, wrong, wrong)
	b.same("a change of an answer")
	third := b.feed("0~")
	_ = append(second, wrong, wrong)
	b.feed("x\x1b")
	last := b.finish()
	b.feed("\xe2")
	b.finish()[0] = wrong
	_ = append(third, wrong, wrong)
	b.feed("\x1b")
	if got := say(b.finish()); say(second) != "8364" || say(third) != "pastestart" || say(last) != "ignored" || got != "ignored" {
		t.Errorf("%s, %s, %s, %s", say(second), say(third), say(last), got)
	}
}

// Nothing of what was fed lies behind an answer's length.
func TestBehindAnAnswer(t *testing.T) {
	for _, s := range texts(500) {
		b := newBoth(t, 36)
		for _, l := range [][]api.Key{b.feed(s), b.feed("\xe2\x82"), b.feed("abc\x1b[1;5C"), b.feed("\x1b"), b.finish()} {
			for _, k := range l[len(l):cap(l)] {
				if k != (api.Key{}) {
					t.Errorf("%q: %v lies behind an answer", s, k)
				}
			}
		}
	}
}

// A row that is long, in one piece: none of it stays but what is begun.
func TestLongRows(t *testing.T) {
	const many = 1 << 17
	for _, part := range []string{"a", "\x1b", "\x1b[", "\u20ac", "\xff", "\x1b[C", "\x1b[200~\x1b[201~", "\x00", "0"} {
		row := strings.Repeat(part, many/len(part))
		for _, ahead := range []string{"", "\x1b[200~", "\x1b["} {
			b := newBoth(t, 36)
			b.feed(ahead + row)
			b.finish()
		}
	}
}

// Two decoders, fed in turns, have nothing to do with one another.
func TestTwoDecoders(t *testing.T) {
	one, other := newBoth(t, 36), newBoth(t, 4096)
	for i, s := range texts(2000) {
		one.feed(s)
		other.feed(s[len(s)/2:])
		switch i % 7 {
		case 2:
			one.reset()
		case 4:
			other.finish()
		}
		one.same("the other one's call")
		other.same("the other one's call")
	}
}

// Each by its own goroutine, with the same bytes.
func TestManyGoroutines(t *testing.T) {
	shared := texts(300)
	var all sync.WaitGroup
	for i := range 16 {
		all.Go(func() {
			a, _ := arena.New(36 + i)
			d, _ := New(a)
			var m model
			for _, s := range shared {
				l, err := d.Feed([]byte(s)...)
				if want := m.feed(s); err != api.OK || !slices.Equal(l, want) || d.Held() != len(m.rest) || d.Pastes() != m.pastes {
					t.Errorf("%q: %s, %d, want %s", s, say(l), err, say(want))
				}
			}
		})
	}
	all.Wait()
}

func FuzzAgainstModel(f *testing.F) {
	for _, s := range append(parts(), "\x1b[200~a\r\x1b[201~\r", "\x1b["+strings.Repeat("1", 33)+"~", "\xe2\x82\x1b[D", "") {
		f.Add([]byte(s), uint64(3))
	}
	f.Fuzz(func(t *testing.T, s []byte, rule uint64) {
		for _, ahead := range []string{"", "\x1b[200~", "\x1b[" + strings.Repeat("1", 30), "\x1b[200~\x1b[20"} {
			b := bothWith(t, ahead)
			l := slices.Clone(b.feed(string(s)))
			pieces := bothWith(t, ahead)
			var l2 []api.Key
			for rest := string(s); rest != ""; {
				n := min(len(rest), int(rule%5)+1)
				rule = rule>>3 | rule<<61
				l2 = append(l2, pieces.feed(rest[:n])...)
				rest = rest[n:]
			}
			if !slices.Equal(l, l2) || b.m != pieces.m {
				t.Fatalf("%q behind %q: %s, in pieces %s", s, ahead, say(l), say(l2))
			}
			b.finish()
			pieces.reset()
		}
	})
}
