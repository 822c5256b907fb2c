package screen

import (
	"math"
	"regexp"
	"runtime"
	"slices"
	"strconv"
	"strings"
	"sync"
	"testing"
	"unicode/utf8"

	"whisperer/api"
	"whisperer/view"
)

// The model: bytes as a text of as many characters below 256, gone through from the front by forms; rows as texts whose columns all stand there.

// oneForm is a form that stands at a text's beginning, t a byte that goes on a character.
func oneForm(parts ...string) *regexp.Regexp {
	form := strings.Join(parts, "|")
	return regexp.MustCompile(`(?s)\A(?:` + strings.ReplaceAll(form, "t", `[\x80-\xbf]`) + `)`)
}

// twoOfMore are the first two bytes of characters of three and of four.
const (
	twoOfThree = `(?:\xe0[\xa0-\xbf]|[\xe1-\xec\xee\xef]t|\xed[\x80-\x9f])`
	twoOfFour  = `(?:\xf0[\x90-\xbf]|[\xf1-\xf3]t|\xf4[\x80-\x8f])`
)

var (
	character = oneForm(`[\x00-\x7f]`, `[\xc2-\xdf]t`, twoOfThree+`t`, twoOfFour+`tt`)
	beginning = oneForm(twoOfFour+`t`, twoOfThree, twoOfFour, `[\xc2-\xf4]`)
	front     = oneForm(`\x1b\[[0-?]{0,32}[ -/]{0,32}`, `\x1bO?`)
	backward  = regexp.MustCompile(`\A\x1b\[([1-9][0-9]{0,3})D\z`)
)

const mostFront = 34

// latin has a character for each byte.
func latin(s string) string {
	l := make([]rune, len(s))
	for i := range len(s) {
		l[i] = rune(s[i])
	}
	return string(l)
}

// modelLength is how many bytes of s are the first sequence, character, or what isn't right; false, if s is a beginning.
func modelLength(s string) (int, bool) {
	text := latin(s[:min(len(s), mostFront+2)])
	if s[0] != 27 {
		if n := utf8.RuneCountInString(character.FindString(text)); n > 0 {
			return n, true
		}
		n := utf8.RuneCountInString(beginning.FindString(text))
		return max(n, 1), n == 0 || n < len(s)
	}
	n := min(len(front.FindString(text)), mostFront)
	if n == len(s) {
		return n, false
	}
	if n > 1 && 64 <= s[n] && s[n] <= 126 {
		n++
	}
	return n, true
}

type model struct {
	rest   string
	rows   []string
	row    int
	column int
	bells  int
	pastes bool
	odd    int
}

func newModel() *model { return &model{rows: []string{""}} }

func (m *model) feed(b string) {
	m.rest += b
	for m.rest != "" {
		n, over := modelLength(m.rest)
		if !over {
			return
		}
		if !m.do(m.rest[:n]) {
			m.odd += n
		}
		m.rest = m.rest[n:]
	}
}

// do does what one whole thing does; false, if it is odd.
func (m *model) do(s string) bool {
	switch s {
	case "\r":
		m.column = 0
	case "\n":
		m.row++
		m.rows = append(m.rows, "")
	case "\a":
		m.bells++
	case "\x1b[K":
		l := []rune(m.rows[m.row])
		m.rows[m.row] = string(l[:min(m.column, len(l))])
	case "\x1b[?2004h", "\x1b[?2004l":
		m.pastes = s[7] == 'h'
	default:
		return m.goBack(s) || m.lay(s)
	}
	return true
}

func (m *model) goBack(s string) bool {
	number := backward.FindStringSubmatch(s)
	if number == nil {
		return false
	}
	n, _ := strconv.Atoi(number[1])
	for ; n > 0 && m.column > 0; n-- {
		m.column--
	}
	return true
}

func (m *model) lay(s string) bool {
	l := []rune(s)
	if !utf8.ValidString(s) || len(l) != 1 || l[0] < 32 || 127 <= l[0] && l[0] <= 159 {
		return false
	}
	row := []rune(m.rows[m.row])
	for len(row) <= m.column {
		row = append(row, ' ')
	}
	row[m.column] = l[0]
	m.rows[m.row] = string(row)
	m.column++
	return true
}

// both are a screen and its model, that are fed the same.
type both struct {
	t   *testing.T
	fed string
	s   *Screen
	m   *model
}

func newBoth(t *testing.T) *both {
	t.Helper()
	b := &both{t: t, s: New(), m: newModel()}
	b.same()
	return b
}

func (b *both) feed(s string) {
	b.t.Helper()
	b.fed += s
	if err := b.s.Feed([]byte(s)...); err != api.OK {
		b.t.Errorf("Feed(%.100q): %d", s, err)
	}
	b.m.feed(s)
}

func (b *both) say() string {
	if len(b.fed) > 200 {
		return strconv.Quote(".." + b.fed[len(b.fed)-200:])
	}
	return strconv.Quote(b.fed)
}

// same holds all that can be seen against the model.
func (b *both) same() {
	b.t.Helper()
	b.sameNumbers()
	for i, want := range b.m.rows {
		if got, err := b.s.Row(i); got != want || err != api.OK {
			b.t.Errorf("%s: row %d %.100q, %d, want %.100q", b.say(), i, got, err, want)
		}
	}
	for _, i := range []int{math.MinInt, -1, len(b.m.rows), math.MaxInt} {
		if got, err := b.s.Row(i); got != "" || err != api.ErrRange {
			b.t.Errorf("%s: row %d %.100q, %d", b.say(), i, got, err)
		}
	}
}

func (b *both) sameNumbers() {
	b.t.Helper()
	row, column := b.s.Place()
	if row != b.m.row || column != b.m.column {
		b.t.Errorf("%s: the place %d, %d, want %d, %d", b.say(), row, column, b.m.row, b.m.column)
	}
	if got, want := b.s.Rows(), len(b.m.rows); got != want {
		b.t.Errorf("%s: %d rows, want %d", b.say(), got, want)
	}
	if got := b.s.Bells(); got != b.m.bells {
		b.t.Errorf("%s: %d bells, want %d", b.say(), got, b.m.bells)
	}
	if got := b.s.Pastes(); got != b.m.pastes {
		b.t.Errorf("%s: pastes %v", b.say(), got)
	}
	if got := b.s.Odd(); got != b.m.odd {
		b.t.Errorf("%s: %d odd, want %d", b.say(), got, b.m.odd)
	}
}

// seen is all that a screen shows, as one text: its rows, each with a | behind it, the place, and, if there are any, how many bells and odd bytes, and pastes.
func seen(s *Screen) string {
	var text strings.Builder
	for i := range s.Rows() {
		row, _ := s.Row(i)
		text.WriteString(row + "|")
	}
	row, column := s.Place()
	text.WriteString(" " + strconv.Itoa(row) + " " + strconv.Itoa(column))
	for _, x := range []struct {
		n    int
		name string
	}{{s.Bells(), " bells "}, {s.Odd(), " odd "}} {
		if x.n > 0 {
			text.WriteString(x.name + strconv.Itoa(x.n))
		}
	}
	if s.Pastes() {
		text.WriteString(" pastes")
	}
	return text.String()
}

// pieces are the ways in which a text is handed in: whole, cut at each byte into two, byte by byte, and with pieces of nothing.
func pieces(s string) [][]string {
	each := strings.Split(latin(s), "")
	for i := range each {
		each[i] = s[i : i+1]
	}
	l := [][]string{{s}, each, {"", s, ""}}
	for i := 1; i < len(s); i++ {
		l = append(l, []string{s[:i], s[i:]})
	}
	return l
}

func feedAll(t *testing.T, l []string) *Screen {
	t.Helper()
	s := New()
	for _, x := range l {
		if err := s.Feed([]byte(x)...); err != api.OK {
			t.Errorf("Feed(%.100q) of %.100q: %d", x, l, err)
		}
	}
	return s
}

// checkSeen holds what bytes show against an answer by hand, in all pieces, and the model, too.
func checkSeen(t *testing.T, in, want string) {
	t.Helper()
	for _, l := range pieces(in) {
		if got := seen(feedAll(t, l)); got != want {
			t.Errorf("%.100q: %.200q, want %.200q", l, got, want)
		}
	}
	b := newBoth(t)
	b.feed(in)
	b.same()
}

type answer struct{ in, want string }

func checkAll(t *testing.T, l []answer) {
	t.Helper()
	for _, x := range l {
		checkSeen(t, x.in, x.want)
	}
}

// numbers are n of 64 bits, of all sorts, by a rule.
func numbers(n int) []uint64 {
	l := make([]uint64, n)
	x := uint64(14)
	for i := range l {
		x = x*6364136223846793005 + 1442695040888963407
		l[i] = x ^ x>>29
	}
	return l
}

// edges are the bytes about which something changes, with their neighbours, and those that sequences are made of.
func edges() []byte {
	return []byte{0, 6, 7, 8, 9, 10, 11, 12, 13, 14, 27, 31, 32, 33, 47, 48, 49, 57, 58, 63, 64, 68, 75, 79, 91, 104, 108, 126, 127, 128, 159, 160, 191, 192, 194, 224, 226, 237, 240, 244, 245, 255}
}

// parts are pieces of all sorts, whole and begun.
func parts() []string {
	return []string{"", "a", "b", " ", "\u00e4", "\u20ac", "\U0001f600", "\r", "\n", "\a", "\t", "\x7f", "\u0085", "\xff", "\xe2", "\x82", "\xac", "\x1b", "[", "O", "K", "D", "1", "2", "0", "9999", "?2004", "h", "l", " ", "\x1b[K", "\x1b[1D", "\x1b[2D", "\x1b[30D", "\x1b[?2004h", "\x1b[?2004l", "\x1b[1K", "\x1b[0D"}
}

// --- The examples.

func TestExamples(t *testing.T) {
	checkAll(t, []answer{
		{"abc\rx\x1b[K", "x| 0 1"},
		{"ab\x1b[1Dc", "ac| 0 2"},
	})
}

// --- P14.1: what bytes do.

func TestNewScreen(t *testing.T) {
	checkSeen(t, "", "| 0 0")
	b := newBoth(t)
	if err := b.s.Feed(); err != api.OK {
		t.Errorf("Feed(): %d", err)
	}
	b.same()
}

func TestNilScreen(t *testing.T) {
	var s *Screen
	for _, b := range [][]byte{nil, {}, {'a'}, {27}, {255}} {
		if err := s.Feed(b...); err != api.ErrNil {
			t.Errorf("Feed(%q): %d", b, err)
		}
	}
	for _, i := range []int{math.MinInt, -1, 0, 1, math.MaxInt} {
		if text, err := s.Row(i); text != "" || err != api.ErrNil {
			t.Errorf("Row(%d): %q, %d", i, text, err)
		}
	}
	row, column := s.Place()
	if row != 0 || column != 0 || s.Rows() != 0 || s.Bells() != 0 || s.Pastes() || s.Odd() != 0 {
		t.Errorf("%d, %d, %d, %d, %v, %d", row, column, s.Rows(), s.Bells(), s.Pastes(), s.Odd())
	}
}

// wides are characters of one byte to four.
func wides() []string {
	return []string{"c", "\u00e4", "\u20ac", "\U0001f600"}
}

func TestCharactersByHand(t *testing.T) {
	for _, c := range wides() {
		checkAll(t, []answer{
			{c, c + "| 0 1"},
			{c + c, c + c + "| 0 2"},
			{"ab" + c, "ab" + c + "| 0 3"},
			{"abc\r" + c, c + "bc| 0 1"},
			{"abc\x1b[2D" + c, "a" + c + "c| 0 2"},
			{"abc\x1b[1D" + c, "ab" + c + "| 0 3"},
			{c + c + c + "\x1b[2Dx", c + "x" + c + "| 0 2"},
			{"abc\n" + c, "abc|   " + c + "| 1 4"},
			{c + c + "\n" + c, c + c + "|  " + c + "| 1 3"},
			{"abc\n\x1b[1D" + c, "abc|  " + c + "| 1 3"},
			{"abc\n" + c + "\r" + c, "abc|" + c + "  " + c + "| 1 1"},
			{"abc\n" + c + "\x1b[3D" + c, "abc| " + c + " " + c + "| 1 2"},
			{"abc\n" + c + "\x1b[2D" + c + c, "abc|  " + c + c + "| 1 4"},
			{"abc\n" + c + "\rxyz" + c + c, "abc|xyz" + c + c + "| 1 5"},
		})
	}
}

func TestAllCharacters(t *testing.T) {
	odd := 0
	s := New()
	for c := range rune(utf8.MaxRune + 1) {
		if c == 7 || c == 10 || c == 13 || c == 27 || !utf8.ValidRune(c) {
			continue
		}
		want := string(c)
		if c < 32 || 127 <= c && c <= 159 {
			odd += len(want)
			want = ""
		}
		s.Feed([]byte("\r\x1b[K" + string(c))...)
		if row, err := s.Row(0); row != want || err != api.OK || s.Odd() != odd {
			t.Fatalf("%U: %q, %d odd, want %q, %d", c, row, s.Odd(), want, odd)
		}
	}
}

func TestControlsByHand(t *testing.T) {
	checkAll(t, []answer{
		{"\r", "| 0 0"},
		{"ab\r", "ab| 0 0"},
		{"ab\r\rc", "cb| 0 1"},
		{"\n", "|| 1 0"},
		{"ab\n", "ab|| 1 2"},
		{"ab\n\n", "ab||| 2 2"},
		{"ab\nc", "ab|  c| 1 3"},
		{"ab\n\n\nc", "ab|||  c| 3 3"},
		{"abcd\rx\ny", "xbcd| y| 1 2"},
		{"ab\r\nc", "ab|c| 1 1"},
		{"ab\n\rc", "ab|c| 1 1"},
		{"a\nb\nc", "a| b|  c| 2 3"},
		{"ab\n\nc\n", "ab||  c|| 3 3"},
		{"abc\n\x1b[1D\n\x1b[1Dx", "abc|| x| 2 2"},
		{"ab\n\x1b[K\nx", "ab||  x| 2 3"},
		{"\a", "| 0 0 bells 1"},
		{"a\ab\a\a", "ab| 0 2 bells 3"},
	})
}

func TestClearBehindByHand(t *testing.T) {
	checkAll(t, []answer{
		{"\x1b[K", "| 0 0"},
		{"ab\x1b[K", "ab| 0 2"},
		{"abc\x1b[1D\x1b[K", "ab| 0 2"},
		{"abc\x1b[2D\x1b[K", "a| 0 1"},
		{"abc\r\x1b[K", "| 0 0"},
		{"abc\r\x1b[K\x1b[Kx", "x| 0 1"},
		{"abc\x1b[2D\x1b[Kxyz", "axyz| 0 4"},
		{"abc\n\x1b[K", "abc|| 1 3"},
		{"abc\n\x1b[Kx", "abc|   x| 1 4"},
		{"abc\nx\x1b[K", "abc|   x| 1 4"},
		{"abc\nx\x1b[1D\x1b[K", "abc|   | 1 3"},
		{"abc\nx\x1b[2D\x1b[K", "abc|  | 1 2"},
		{"abc\nx\x1b[2D\x1b[Ky", "abc|  y| 1 3"},
		{"abc\nx\x1b[2D\x1b[K\x1b[1Dy", "abc| y| 1 2"},
		{"abc\nx\x1b[1D\x1b[K\ry", "abc|y  | 1 1"},
		{"abc\nx\r\x1b[Ky", "abc|y| 1 1"},
		{"abc\nxyz\x1b[2D\x1b[K", "abc|   x| 1 4"},
		{"abc\nx\r\nabc\x1b[K", "abc|   x|abc| 2 3"},
		{"\u00e4\u20ac\U0001f600\x1b[2D\x1b[K", "\u00e4| 0 1"},
		{"abc\r\x1b[0K", "abc| 0 0 odd 4"},
		{"abc\r\x1b[1K", "abc| 0 0 odd 4"},
		{"abc\r\x1b[2K", "abc| 0 0 odd 4"},
		{"abc\r\x1b[;K", "abc| 0 0 odd 4"},
		{"abc\r\x1b[?K", "abc| 0 0 odd 4"},
		{"abc\r\x1b[ K", "abc| 0 0 odd 4"},
		{"abc\r\x1b[k", "abc| 0 0 odd 3"},
		{"abc\r\x1b[J", "abc| 0 0 odd 3"},
	})
}

// TestWhatIsCut: what went doesn't come back in what is laid behind.
func TestWhatIsCut(t *testing.T) {
	b := newBoth(t)
	for n := range 40 {
		b.feed("\rabcdefghij\x1b[" + strconv.Itoa(1+n%12) + "D\x1b[K")
		b.same()
		b.feed("x\n")
		b.same()
	}
}

func TestBackByHand(t *testing.T) {
	checkAll(t, []answer{
		{"abc\x1b[1D", "abc| 0 2"},
		{"abc\x1b[2D", "abc| 0 1"},
		{"abc\x1b[3D", "abc| 0 0"},
		{"abc\x1b[4D", "abc| 0 0"},
		{"abc\x1b[9D", "abc| 0 0"},
		{"abc\x1b[10D", "abc| 0 0"},
		{"abc\x1b[100D", "abc| 0 0"},
		{"abc\x1b[1000D", "abc| 0 0"},
		{"abc\x1b[9999D", "abc| 0 0"},
		{"\x1b[1Dx", "x| 0 1"},
		{"abc\x1b[1D\x1b[1D", "abc| 0 1"},
		{"abc\n\x1b[2D", "abc|| 1 1"},
		{"abc\x1b[10000D", "abc| 0 3 odd 8"},
		{"abc\x1b[99999D", "abc| 0 3 odd 8"},
		{"abc\x1b[00001D", "abc| 0 3 odd 8"},
		{"abc\x1b[99999999999999999999999999999999D", "abc| 0 3 odd 35"},
		{"abc\x1b[18446744073709551617D", "abc| 0 3 odd 23"},
		{"abc\x1b[0D", "abc| 0 3 odd 4"},
		{"abc\x1b[00D", "abc| 0 3 odd 5"},
		{"abc\x1b[01D", "abc| 0 3 odd 5"},
		{"abc\x1b[0999D", "abc| 0 3 odd 7"},
		{"abc\x1b[D", "abc| 0 3 odd 3"},
		{"abc\x1b[;D", "abc| 0 3 odd 4"},
		{"abc\x1b[1;D", "abc| 0 3 odd 5"},
		{"abc\x1b[;1D", "abc| 0 3 odd 5"},
		{"abc\x1b[1;1D", "abc| 0 3 odd 6"},
		{"abc\x1b[1:D", "abc| 0 3 odd 5"},
		{"abc\x1b[?1D", "abc| 0 3 odd 5"},
		{"abc\x1b[1?D", "abc| 0 3 odd 5"},
		{"abc\x1b[-D", "abc| 0 3 odd 4"},
		{"abc\x1b[+D", "abc| 0 3 odd 4"},
		{"abc\x1b[1 D", "abc| 0 3 odd 5"},
		{"abc\x1b[1+D", "abc| 0 3 odd 5"},
		{"abc\x1b[+1D", "abc1D| 0 5 odd 3"},
		{"abc\x1b[1d", "abc| 0 3 odd 4"},
		{"abc\x1b[1C", "abc| 0 3 odd 4"},
		{"abc\x1b[1A", "abc| 0 3 odd 4"},
	})
}

func TestBackByManyNumbers(t *testing.T) {
	// The row has more columns than the place can go back at once.
	const columns = 10100
	s := New()
	s.Feed([]byte(strings.Repeat("a", columns))...)
	for n := range 10030 {
		if 300 < n && n < 980 || 1020 < n && n < 9970 {
			continue
		}
		text := "\x1b[" + strconv.Itoa(n) + "D"
		column, odd := columns-n, s.Odd()
		if n < 1 || n > 9999 {
			column, odd = columns, odd+len(text)
		}
		s.Feed([]byte(text)...)
		if _, got := s.Place(); got != column || s.Odd() != odd {
			t.Errorf("%q: the column %d, %d odd, want %d, %d", text, got, s.Odd(), column, odd)
		}
		s.Feed([]byte(strings.Repeat("a", columns-column))...)
	}
	b := newBoth(t)
	b.feed(strings.Repeat("a", columns))
	b.feed("\x1b[9999Dx\x1b[101D")
	b.same()
	b.feed("y\x1b[9999Dz")
	b.same()
}

func TestPastesByHand(t *testing.T) {
	checkAll(t, []answer{
		{"\x1b[?2004h", "| 0 0 pastes"},
		{"\x1b[?2004h\x1b[?2004h", "| 0 0 pastes"},
		{"\x1b[?2004h\x1b[?2004l", "| 0 0"},
		{"\x1b[?2004l", "| 0 0"},
		{"\x1b[?2004l\x1b[?2004l\x1b[?2004h", "| 0 0 pastes"},
		{"\x1b[?2004ha\r\n\a\x1b[K\x1b[1D", "a|| 1 0 bells 1 pastes"},
		{"\x1b[2004h", "| 0 0 odd 7"},
		{"\x1b[?2005h", "| 0 0 odd 8"},
		{"\x1b[?200h", "| 0 0 odd 7"},
		{"\x1b[?20040h", "| 0 0 odd 9"},
		{"\x1b[?02004h", "| 0 0 odd 9"},
		{"\x1b[?2004;h", "| 0 0 odd 9"},
		{"\x1b[?2004;2004h", "| 0 0 odd 13"},
		{"\x1b[?25h", "| 0 0 odd 6"},
		{"\x1b[?h", "| 0 0 odd 4"},
		{"\x1b[h", "| 0 0 odd 3"},
		{"\x1b[?2004 h", "| 0 0 odd 9"},
		{"\x1b[?2004H", "| 0 0 odd 8"},
		{"\x1b[?2004K", "| 0 0 odd 8"},
		{"\x1b[?2004D", "| 0 0 odd 8"},
		{"\x1b[?2004h\x1b[2004l\x1b[?2005l\x1b[?2004 l\x1b[?2004;l\x1b[?l\x1b[l", "| 0 0 odd 40 pastes"},
	})
}

func TestOddSequencesByHand(t *testing.T) {
	// As many parameters and others as there may be, and one more: that one is a character by itself.
	full := strings.Repeat("1", api.MaxParams)
	checkAll(t, []answer{
		{"a\x1bOD", "a| 0 1 odd 3"},
		{"a\x1bOK", "a| 0 1 odd 3"},
		{"a\x1bO1D", "a1D| 0 3 odd 2"},
		{"a\x1bK", "aK| 0 2 odd 1"},
		{"a\x1b\x1b[K", "a| 0 1 odd 1"},
		{"ab\r\x1b\x1b\x1b[K", "| 0 0 odd 2"},
		{"ab\x1b[1\x1b[1Dx", "ax| 0 2 odd 3"},
		{"a\x1b\nb", "a| b| 1 2 odd 1"},
		{"a\x1b[\rb", "b| 0 1 odd 2"},
		{"a\x1b[1\nb", "a| b| 1 2 odd 3"},
		{"a\x1b[1 \ab", "ab| 0 2 bells 1 odd 4"},
		{"a\x1b[ 1D", "a1D| 0 3 odd 3"},
		{"a\x1b[\u00e4", "a\u00e4| 0 2 odd 2"},
		{"a\x1b[1\xffD", "aD| 0 2 odd 4"},
		{"a\x1b[1\x7fD", "aD| 0 2 odd 4"},
		{"a\x1bO\u00e4", "a\u00e4| 0 2 odd 2"},
		{"a\x1b[@", "a| 0 1 odd 3"},
		{"a\x1b[~", "a| 0 1 odd 3"},
		{"a\x1b[" + full + "D", "a| 0 1 odd 35"},
		{"a\x1b[" + full + "1D", "a1D| 0 3 odd 34"},
		{"a\x1b[" + full[1:] + " D", "a| 0 1 odd 35"},
		{"a\x1b[" + full[1:] + "  D", "a D| 0 3 odd 34"},
		{"a\x1b[" + full + "\x1b[1D", "a| 0 0 odd 34"},
		{"a\x1b[200~", "a| 0 1 odd 6"},
	})
}

func TestOddCharactersByHand(t *testing.T) {
	checkAll(t, []answer{
		{"a\x00", "a| 0 1 odd 1"},
		{"a\tb", "ab| 0 2 odd 1"},
		{"a\b", "a| 0 1 odd 1"},
		{"a\v\f", "a| 0 1 odd 2"},
		{"a\x1fb\x20c", "ab c| 0 4 odd 1"},
		{"~\x7f", "~| 0 1 odd 1"},
		{"\u0080\u0085\u009b\u009f\u00a0", "\u00a0| 0 1 odd 8"},
		{"a\u009bK", "aK| 0 2 odd 2"},
		{"\ufffd", "\ufffd| 0 1"},
		{"a\xffb", "ab| 0 2 odd 1"},
		{"a\x80b", "ab| 0 2 odd 1"},
		{"a\xc3b", "ab| 0 2 odd 1"},
		{"a\xc0\x80b", "ab| 0 2 odd 2"},
		{"a\xe2\x82b", "ab| 0 2 odd 2"},
		{"a\xe2\x82\xe2\x82\xac", "a\u20ac| 0 2 odd 2"},
		{"a\xed\xa0\x80b", "ab| 0 2 odd 3"},
		{"a\xe0\x80\x80b", "ab| 0 2 odd 3"},
		{"a\xf0\x9f\x98b", "ab| 0 2 odd 3"},
		{"a\xf4\x90\x80\x80b", "ab| 0 2 odd 4"},
		{"ab\r\xe2\x1b[K", "| 0 0 odd 1"},
		{"a\xe2\x82\rb", "b| 0 1 odd 2"},
		{"a\xf0\x9f\x98\nb", "a| b| 1 2 odd 3"},
		{"a\xc3\ab", "ab| 0 2 bells 1 odd 1"},
	})
}

func TestBegunAndNeverEnded(t *testing.T) {
	begun := []string{"\x1b", "\x1b[", "\x1bO", "\x1b[1", "\x1b[?2004", "\x1b[1 ", "\x1b[" + strings.Repeat("1", api.MaxParams), "\xc3", "\xe2", "\xe2\x82", "\xf0", "\xf0\x9f", "\xf0\x9f\x98"}
	for _, x := range begun {
		checkSeen(t, x, "| 0 0")
		checkSeen(t, "ab\n\a"+x, "ab|| 1 2 bells 1")
		s := New()
		s.Feed([]byte("ab\n\a" + x)...)
		for range 3 {
			s.Feed()
		}
		if got := seen(s); got != "ab|| 1 2 bells 1" {
			t.Errorf("%q, and nothing: %q", x, got)
		}
	}
}

func TestBegunAndGoneOn(t *testing.T) {
	checkAll(t, []answer{
		{"ab\x1b[1Dc", "ac| 0 2"},
		{"ab\r\x1b[Kc", "c| 0 1"},
		{"\x1b[?2004hc", "c| 0 1 pastes"},
		{"\xf0\x9f\x98\x80c", "\U0001f600c| 0 2"},
		{"\xe2\x82\xacc", "\u20acc| 0 2"},
	})
}

func TestRow(t *testing.T) {
	b := newBoth(t)
	for _, x := range []string{"ab", "\n", "c", "\r\n", "\xe2\x82", "\xac", "\n\n", "\x1b[K", "d"} {
		b.feed(x)
		b.same()
	}
	want := []string{"ab", "  c", "\u20ac", "", " d"}
	for i, x := range want {
		if got, err := b.s.Row(i); got != x || err != api.OK {
			t.Errorf("row %d: %q, %d, want %q", i, got, err, x)
		}
	}
	for _, i := range []int{math.MinInt, -2, -1, len(want), len(want) + 1, math.MaxInt} {
		if got, err := b.s.Row(i); got != "" || err != api.ErrRange {
			t.Errorf("row %d: %q, %d", i, got, err)
		}
	}
}

// TestRowsOfEdges: all rows of three bytes of the edges, each on a row with something in it.
func TestRowsOfEdges(t *testing.T) {
	l := edges()
	for _, x := range l {
		for _, y := range l {
			for _, z := range l {
				b := &both{t: t, s: New(), m: newModel()}
				b.feed("ab\ncd\x1b[1D")
				b.feed(string([]byte{x, y, z}))
				b.same()
				b.feed("K")
				b.same()
			}
		}
	}
}

// TestRowsOfMoves: all rows of six of what lays, moves, and cuts.
func TestRowsOfMoves(t *testing.T) {
	moves := []string{"x", "yz", "\r", "\n", "\x1b[K", "\x1b[1D", "\x1b[2D"}
	rows := []string{"ab\n"}
	for range 6 {
		var longer []string
		for _, x := range rows {
			for _, y := range moves {
				longer = append(longer, x+y)
			}
		}
		rows = longer
	}
	for _, x := range rows {
		b := &both{t: t, s: New(), m: newModel()}
		b.feed(x)
		b.same()
	}
}

// TestTurnsOfAllSorts: many feeds of one screen, and what is seen behind each.
func TestTurnsOfAllSorts(t *testing.T) {
	all := parts()
	for _, seed := range []int{0, 1, 2} {
		b := newBoth(t)
		for i, x := range numbers(6000)[2000*seed:][:2000] {
			b.feed(all[int(x>>8)%len(all)])
			b.sameNumbers()
			if i%50 == 0 {
				b.same()
			}
		}
		b.same()
	}
}

// --- P14.2: the pieces in which bytes come play no part.

func TestPieces(t *testing.T) {
	all := parts()
	l := numbers(12000)
	for i := 0; i < len(l); i += 12 {
		var whole string
		for _, x := range l[i : i+10] {
			whole += all[int(x>>8)%len(all)]
		}
		want := seen(feedAll(t, []string{whole}))
		for _, p := range pieces(whole) {
			if got := seen(feedAll(t, p)); got != want {
				t.Errorf("%q: %q, want %q", p, got, want)
			}
		}
		var cut []string
		rest := whole
		for x := l[i+10]; rest != ""; x = x*6364136223846793005 + l[i+11] {
			n := min(len(rest), int(x>>40)%5)
			cut, rest = append(cut, rest[:n]), rest[n:]
		}
		if got := seen(feedAll(t, cut)); got != want {
			t.Errorf("%q: %q, want %q", cut, got, want)
		}
	}
}

func TestPiecesOfEachTwoParts(t *testing.T) {
	for _, x := range parts() {
		for _, y := range parts() {
			in := "ab\nc" + x + y + "d"
			want := seen(feedAll(t, []string{in}))
			for _, p := range pieces(in) {
				if got := seen(feedAll(t, p)); got != want {
					t.Errorf("%q: %q, want %q", p, got, want)
				}
			}
		}
	}
}

// --- P14.3: what the view tells.

// befores are what a screen was fed ahead of a view.
func befores() []string {
	return []string{
		"",
		"abc",
		strings.Repeat("#", 1400),
		strings.Repeat("#", 1400) + "\x1b[700D",
		"abc\r\nxyz",
		"abc\n",
		"abc\nx\x1b[2D",
		"abc\nx\x1b[2D\x1b[K",
		strings.Repeat("#", 1400) + "\nx",
		"\u20ac\u20ac\u20ac\a\xff\x1b[?2004h",
		"\r*********",
	}
}

// stars is how many a mode has, and how many stand ahead of the place.
func stars(mode, count, at int) (int, int) {
	switch {
	case mode == api.Mask:
		return count, at
	case mode == api.Fixed && count > 0:
		return 8, 8
	}
	return 0, 0
}

// checkView feeds what the view tells in pieces of so many bytes, and holds what is seen against P14.3.
func checkView(t *testing.T, s *Screen, a api.Ask, count, at, size int) {
	t.Helper()
	line, err := view.Render(a, count, at)
	if err != api.OK {
		t.Fatalf("%v, %d, %d: %d", a, count, at, err)
	}
	rows, odd, bells, pastes := s.Rows(), s.Odd(), s.Bells(), s.Pastes()
	for piece := range slices.Chunk(line, size) {
		s.Feed(piece...)
	}
	all, ahead := stars(a.Mode, count, at)
	row, column := s.Place()
	text, _ := s.Row(row)
	if text != a.Prompt+strings.Repeat("*", all) || column != utf8.RuneCountInString(a.Prompt)+ahead || row != rows-1 {
		t.Errorf("%v, %d, %d: %.100q, %d, %d", a, count, at, text, row, column)
	}
	if s.Rows() != rows || s.Odd() != odd || s.Bells() != bells || s.Pastes() != pastes {
		t.Errorf("%v, %d, %d: %d, %d, %d, %v", a, count, at, s.Rows(), s.Odd(), s.Bells(), s.Pastes())
	}
}

func TestViewsBehindAll(t *testing.T) {
	prompts := []string{"", "pw: ", " ", "K", "\u00e4\u20ac\U0001f600: ", strings.Repeat("p", api.MaxPrompt), strings.Repeat("\u20ac", 85)}
	counts := [][2]int{{0, 0}, {1, 0}, {1, 1}, {2, 1}, {8, 0}, {9, 9}, {10, 0}, {11, 1}, {100, 0}, {101, 1}, {1000, 0}, {1001, 1}, {1024, 0}, {1024, 512}, {1024, 1024}}
	for _, before := range befores() {
		for _, prompt := range prompts {
			for mode := range api.Fixed + 1 {
				for _, c := range counts {
					for _, size := range []int{1, 7, 2000} {
						s := New()
						s.Feed([]byte(before)...)
						checkView(t, s, api.Ask{Prompt: prompt, Mode: mode}, c[0], c[1], size)
					}
				}
			}
		}
	}
}

func TestViewsBehindAnother(t *testing.T) {
	for mode := range api.Fixed + 1 {
		s := New()
		for _, x := range numbers(3000) {
			a := api.Ask{Prompt: strings.Repeat("\u00e4", int(x>>60)), Mode: mode}
			count := int(x>>8) % 40
			checkView(t, s, a, count, int(x>>20)%(count+1), 1+int(x>>40)%9)
			if x>>50%16 == 0 {
				s.Feed(view.Close()...)
			}
		}
		if s.Odd() != 0 {
			t.Errorf("%d odd", s.Odd())
		}
	}
}

// TestViewBehindWhatIsBegun: what is begun breaks off at the view's first byte, and is odd itself.
func TestViewBehindWhatIsBegun(t *testing.T) {
	line, _ := view.Render(api.Ask{Prompt: "pw: ", Mode: api.Mask}, 3, 1)
	for _, begun := range []string{"\x1b", "\x1b[", "\x1bO", "\x1b[12", "\x1b[1 ", "\xc3", "\xe2\x82", "\xf0\x9f\x98"} {
		checkSeen(t, "abc"+begun+string(line), "pw: ***| 0 5 odd "+strconv.Itoa(len(begun)))
	}
}

func TestOtherBytesOfTheView(t *testing.T) {
	s := New()
	for _, x := range []struct {
		b    []byte
		want string
	}{
		{view.Start(), "| 0 0 pastes"},
		{[]byte("pw: "), "pw: | 0 4 pastes"},
		{view.Bell(), "pw: | 0 4 bells 1 pastes"},
		{view.Close(), "pw: || 1 0 bells 1 pastes"},
		{view.Stop(), "pw: || 1 0 bells 1"},
	} {
		s.Feed(x.b...)
		if got := seen(s); got != x.want {
			t.Errorf("%q: %q, want %q", x.b, got, x.want)
		}
	}
}

// --- The rules.

func TestWhatIsHandedIn(t *testing.T) {
	for _, x := range []string{"abc", "ab\x1b[1D", "ab\x1b[1", "a\xe2\x82", "\x1b"} {
		memory := []byte(x + "12345678")
		b := memory[:len(x)]
		s := New()
		s.Feed(b...)
		if string(memory) != x+"12345678" {
			t.Errorf("%q was changed: %q", x, memory)
		}
		// What was handed in may be changed afterwards, also while a part of it waits.
		clear(memory)
		s.Feed([]byte("D\xac")...)
		other := New()
		other.Feed([]byte(x + "D\xac")...)
		if got, want := seen(s), seen(other); got != want {
			t.Errorf("%q: %q, want %q", x, got, want)
		}
		// Nor does what is fed later stand in what was handed in.
		if !slices.Equal(memory, make([]byte, len(memory))) {
			t.Errorf("%q: %q", x, memory)
		}
	}
}

// TestWhatIsKept: of what was fed only what is begun waits, also where it is the end of many bytes.
func TestWhatIsKept(t *testing.T) {
	const many = 1 << 24
	var before, behind runtime.MemStats
	runtime.GC()
	runtime.ReadMemStats(&before)
	ends := []string{"", "\x1b[1", "\xe2\x82"}
	var l []*Screen
	for _, x := range ends {
		s := New()
		s.Feed(append(slices.Repeat([]byte{'\a'}, many), x...)...)
		l = append(l, s)
	}
	runtime.GC()
	runtime.ReadMemStats(&behind)
	if behind.HeapAlloc > before.HeapAlloc+many/2 {
		t.Errorf("%d bytes are kept", behind.HeapAlloc-before.HeapAlloc)
	}
	for i, s := range l {
		if s.Bells() != many || s.Odd() != 0 {
			t.Errorf("%q: %d bells, %d odd", ends[i], s.Bells(), s.Odd())
		}
	}
}

// fedBytes is how many bytes of memory a screen takes in all while it is fed.
func fedBytes(l ...string) uint64 {
	var before, behind runtime.MemStats
	runtime.ReadMemStats(&before)
	feeder := New()
	for _, x := range l {
		feeder.Feed([]byte(x)...)
	}
	runtime.ReadMemStats(&behind)
	return behind.TotalAlloc - before.TotalAlloc
}

// TestRowsThatBeginWhereOthersEnd: their blanks, laid out, would take some gigabytes.
func TestRowsThatBeginWhereOthersEnd(t *testing.T) {
	const n = 40000
	in := strings.Repeat("a\n", n)
	if got := fedBytes(in); got > 100<<20 {
		t.Errorf("%d bytes", got)
	}
	if got := fedBytes(strings.Repeat("a", n), strings.Repeat("\nx\x1b[2Dy", n)); got > 100<<20 {
		t.Errorf("%d bytes", got)
	}
	s := New()
	s.Feed([]byte(in)...)
	for _, i := range []int{0, 1, n / 2, n - 1} {
		if row, err := s.Row(i); row != strings.Repeat(" ", i)+"a" || err != api.OK {
			t.Errorf("row %d: %d bytes, %d", i, len(row), err)
		}
	}
	if row, column := s.Place(); row != n || column != n {
		t.Errorf("%d, %d", row, column)
	}
}

func TestLongRows(t *testing.T) {
	s := New()
	for range 100 {
		s.Feed([]byte(strings.Repeat("\u20ac", 10000))...)
	}
	if row, err := s.Row(0); row != strings.Repeat("\u20ac", 1000000) || err != api.OK {
		t.Errorf("%d bytes, %d", len(row), err)
	}
	for range 1000000 {
		s.Feed('\a', '\n', 0xff)
	}
	if s.Rows() != 1000001 || s.Bells() != 1000000 || s.Odd() != 1000000 {
		t.Errorf("%d, %d, %d", s.Rows(), s.Bells(), s.Odd())
	}
}

func TestTwoScreens(t *testing.T) {
	all := parts()
	one, two := newBoth(t), newBoth(t)
	for _, x := range numbers(1500) {
		b := one
		if x>>60%2 == 0 {
			b = two
		}
		b.feed(all[int(x>>8)%len(all)])
		one.sameNumbers()
		two.sameNumbers()
	}
	one.same()
	two.same()
}

func TestManyGoroutines(t *testing.T) {
	var all sync.WaitGroup
	for i := range 8 {
		all.Go(func() {
			pieces := parts()
			b := &both{t: t, s: New(), m: newModel()}
			for _, x := range numbers(800)[100*i:][:100] {
				b.feed(pieces[int(x>>8)%len(pieces)])
				b.same()
			}
		})
	}
	all.Wait()
}

func FuzzAgainstModel(f *testing.F) {
	for _, x := range parts() {
		f.Add([]byte("ab\nc"+x+"d"), uint64(3))
	}
	f.Fuzz(func(t *testing.T, in []byte, cut uint64) {
		b := newBoth(t)
		for rest := string(in); rest != ""; cut = cut*6364136223846793005 + 1442695040888963407 {
			n := min(len(rest), 1+int(cut>>33)%7)
			b.feed(rest[:n])
			b.sameNumbers()
			rest = rest[n:]
		}
		b.same()
	})
}
