package view

import (
	"bytes"
	"fmt"
	"math"
	"slices"
	"strings"
	"sync"
	"testing"
	"unicode/utf8"

	"whisperer/api"
)

// The model: a line as a list of stars, of which those behind the place are counted, laid up by the chapter's own numbers.

const (
	mostSecret = 1024
	mostPrompt = 256
	greatest   = 1114111
)

// modelShown asks whether a text is made of characters that may be shown.
func modelShown(s string) bool {
	control := func(c rune) bool { return c < 32 || 127 <= c && c <= 159 }
	return utf8.ValidString(s) && !strings.ContainsFunc(s, control)
}

func modelCheck(a api.Ask) api.Errno {
	if !modelShown(a.Prompt) {
		return api.ErrForm
	}
	if len(a.Prompt) > mostPrompt {
		return api.ErrLong
	}
	if a.Mode != 0 && a.Mode != 1 && a.Mode != 2 {
		return api.ErrKind
	}
	if a.Room < 0 {
		return api.ErrRange
	}
	return api.OK
}

func modelInRange(count, at int) bool {
	return at >= 0 && count >= at && mostSecret >= count
}

// modelLine are the stars ahead of the place, and those behind it.
func modelLine(mode, count, at int) (int, int) {
	switch {
	case !modelInRange(count, at):
		return 0, 0
	case mode == 1:
		return at, count - at
	case mode == 2 && count > 0:
		return 8, 0
	}
	return 0, 0
}

func modelRender(a api.Ask, count, at int) (string, api.Errno) {
	if err := modelCheck(a); err != api.OK {
		return "", err
	}
	if !modelInRange(count, at) {
		return "", api.ErrRange
	}
	ahead, behind := modelLine(a.Mode, count, at)
	s := "\r" + a.Prompt + strings.Repeat("*", ahead+behind) + "\x1b[K"
	if behind > 0 {
		s += fmt.Sprintf("\x1b[%dD", behind)
	}
	return s, api.OK
}

// seen is what somebody sees who is shown bytes on a row that held something else: the row, and the column of the place.
func seen(t *testing.T, was string, b []byte) (string, int) {
	t.Helper()
	row := []rune(was)
	at := len(row)
	for s := string(b); s != ""; {
		c, n := utf8.DecodeRuneInString(s)
		var by int
		switch {
		case c == '\r':
			at = 0
		case strings.HasPrefix(s, "\x1b[K"):
			row, n = row[:min(at, len(row))], 3
		case c == 27:
			if _, err := fmt.Sscanf(s, "\x1b[%dD", &by); err != nil || by < 1 || by > at {
				t.Fatalf("%.100q, at column %d: no such sequence", s, at)
			}
			at, n = at-by, len(fmt.Sprintf("\x1b[%dD", by))
		case !modelShown(s[:n]):
			t.Fatalf("%.100q: no such byte", s)
		case at == len(row):
			row = append(row, c)
			at++
		default:
			row[at] = c
			at++
		}
		s = s[n:]
	}
	return string(row), at
}

// old is a row that is longer than all lines.
var old = strings.Repeat("#", mostPrompt+mostSecret+40)

// check holds all calls against the model, at these arguments.
func check(t *testing.T, a api.Ask, count, at int) {
	t.Helper()
	if got, want := Check(a), modelCheck(a); got != want {
		t.Errorf("Check(%.100q, %d, %d): %d, want %d", a.Prompt, a.Mode, a.Room, got, want)
	}
	checkCounts(t, a.Mode, count, at)
	want, wantErr := modelRender(a, count, at)
	got, err := Render(a, count, at)
	if string(got) != want || err != wantErr {
		t.Errorf("Render(%.100q, %d, %d; %d, %d): %.100q, %d, want %.100q, %d", a.Prompt, a.Mode, a.Room, count, at, got, err, want, wantErr)
	}
}

func checkCounts(t *testing.T, mode, count, at int) {
	t.Helper()
	ahead, behind := modelLine(mode, count, 0)
	if got, want := Stars(mode, count), ahead+behind; got != want {
		t.Errorf("Stars(%d, %d): %d, want %d", mode, count, got, want)
	}
	want, _ := modelLine(mode, count, at)
	if got := Place(mode, count, at); got != want {
		t.Errorf("Place(%d, %d, %d): %d, want %d", mode, count, at, got, want)
	}
}

// checkLine holds a line against its bytes by hand, and the model, too.
func checkLine(t *testing.T, prompt string, mode, count, at int, want string) {
	t.Helper()
	a := api.Ask{Prompt: prompt, Mode: mode, Room: 4}
	check(t, a, count, at)
	if got, err := Render(a, count, at); string(got) != want || err != api.OK {
		t.Errorf("Render(%.100q, %d; %d, %d): %.100q, %d, want %.100q", prompt, mode, count, at, got, err, want)
	}
}

// checkWrong holds what is asked wrongly against its error by hand: Render tells it, too, ahead of its own, and nothing beside it.
func checkWrong(t *testing.T, a api.Ask, want api.Errno) {
	t.Helper()
	if got := Check(a); got != want {
		t.Errorf("Check(%.100q, %d, %d): %d, want %d", a.Prompt, a.Mode, a.Room, got, want)
	}
	for _, c := range [][2]int{{0, 0}, {3, 1}, {1024, 1024}, {-1, 0}, {3, -1}, {3, 4}, {1025, 0}} {
		check(t, a, c[0], c[1])
		if got, err := Render(a, c[0], c[1]); len(got) != 0 || err != want {
			t.Errorf("Render(%.100q, %d, %d; %d, %d): %.100q, %d, want nothing, %d", a.Prompt, a.Mode, a.Room, c[0], c[1], got, err, want)
		}
	}
}

// noModes are numbers of no mode, some of which are one in fewer bits.
func noModes() []int {
	return []int{-1, 3, 4, 5, -2, -3, 42, 128, 255, 256, 257, -254, -256, 65536, 65537, 1 << 32, 1<<32 + 1, 1<<32 + 2, -1 << 32, math.MaxInt32, math.MinInt32, math.MaxInt, math.MinInt, math.MinInt + 1, math.MinInt + 2}
}

// counts are how many characters there may be, and how many not, with some that are right ones in fewer bits.
func counts() []int {
	return []int{0, 1, 2, 3, 7, 8, 9, 10, 11, 99, 100, 101, 255, 256, 257, 999, 1000, 1001, 1022, 1023, 1024, 1025, 1026, 1032, 4096, 65536, 65540, 1 << 32, 1<<32 + 5, math.MaxInt32, math.MaxInt - 1, math.MaxInt, -1, -2, -8, -1024, -1 << 32, math.MinInt32, math.MinInt + 1, math.MinInt}
}

// prompts are of all sorts.
func prompts() []string {
	return []string{"", " ", "p", "pw: ", "\u00e4", "\u20ac", "\U0001f600", "a\u00e4\u20ac\U0001f600: ", "*", "***", "\ufffd", "\u00a0", "e\u0301", "\u202e", "\u2028", strings.Repeat("p", 255), strings.Repeat("p", 256), strings.Repeat("\u00e4", 128), strings.Repeat("\U0001f600", 64), "\r", "\x1b[K", "\x7f", "\u009b", "\xff", "\xe2\x82", "\xed\xa0\x80", strings.Repeat("p", 257), strings.Repeat("\u00e4", 129), strings.Repeat("\xff", 300)}
}

func TestExamples(t *testing.T) {
	checkLine(t, "pw: ", api.Mask, 3, 1, "\rpw: ***\x1b[K\x1b[2D")
	checkLine(t, "pw: ", api.Fixed, 3, 1, "\rpw: ********\x1b[K")
}

// P13.1: Check.

func TestPromptsByHand(t *testing.T) {
	for s, want := range map[string]api.Errno{
		"":                        api.OK,
		" ":                       api.OK,
		"~":                       api.OK,
		"pw: ":                    api.OK,
		"\u00a0":                  api.OK,
		"\u07ff\u0800\uffff":      api.OK,
		"\ud7ff\ue000":            api.OK,
		"\ufffd":                  api.OK,
		"\ufeff\ufffe":            api.OK,
		"\U00010000":              api.OK,
		"\U0010ffff":              api.OK,
		"\u00e4\u20ac\U0001f600a": api.OK,
		"\x00":                    api.ErrForm,
		"\a":                      api.ErrForm,
		"\t":                      api.ErrForm,
		"\n":                      api.ErrForm,
		"pw: \r":                  api.ErrForm,
		"\x1b[K":                  api.ErrForm,
		"\x1f":                    api.ErrForm,
		"\x7f":                    api.ErrForm,
		"\u0080":                  api.ErrForm,
		"\u009f":                  api.ErrForm,
		"a\u0085b":                api.ErrForm,
		"\x80":                    api.ErrForm,
		"\xff":                    api.ErrForm,
		"\xc3":                    api.ErrForm,
		"\u00e4\xc3":              api.ErrForm,
		"\xc3\u00e4":              api.ErrForm,
		"\xe2\x82":                api.ErrForm,
		"\xe2\x82a":               api.ErrForm,
		"\xf0\x9f\x98":            api.ErrForm,
		"\xc0\x80":                api.ErrForm,
		"\xc1\xbf":                api.ErrForm,
		"\xe0\x9f\xbf":            api.ErrForm,
		"\xed\xa0\x80":            api.ErrForm,
		"\xed\xbf\xbf":            api.ErrForm,
		"\xf0\x8f\xbf\xbf":        api.ErrForm,
		"\xf4\x90\x80\x80":        api.ErrForm,
		"\xef\xbf":                api.ErrForm,
		"\ufffd\xef\xbf":          api.ErrForm,
		"\xff\ufffd":              api.ErrForm,
	} {
		for mode := range 3 {
			if got := Check(api.Ask{Prompt: s, Mode: mode, Room: mode}); got != want {
				t.Errorf("Check(%q, %d): %d, want %d", s, mode, got, want)
			}
		}
	}
}

// Each character, as it is, and between others.
func TestPromptsOfEachCharacter(t *testing.T) {
	for c := range rune(greatest + 1) {
		s := string(c)
		if 0xd800 <= c && c <= 0xdfff {
			s = string([]byte{0xed, byte(128 + c/64%64), byte(128 + c%64)})
		}
		want := api.OK
		switch {
		case c < 32, 127 <= c && c <= 159, 0xd800 <= c && c <= 0xdfff:
			want = api.ErrForm
		}
		for _, s := range []string{s, "a" + s + "\u20ac"} {
			if got := Check(api.Ask{Prompt: s}); got != want {
				t.Errorf("Check(%q): %d, want %d", s, got, want)
			}
		}
	}
}

// All prompts of one and two bytes, and of three and four those that end about the edges of what may stand in a character.
func TestAllShortPrompts(t *testing.T) {
	try := func(b ...byte) {
		a := api.Ask{Prompt: string(b)}
		if got, want := Check(a), modelCheck(a); got != want {
			t.Errorf("Check(%q): %d, want %d", a.Prompt, got, want)
		}
	}
	edges := []byte{31, 32, 127, 128, 143, 144, 159, 160, 189, 191, 192, 255}
	for i := range 256 {
		b := byte(i)
		try(b)
		for j := range 256 {
			c := byte(j)
			try(b, c)
			for _, d := range edges {
				try(b, c, d)
				if b < 192 || c < 127 || c > 192 {
					continue
				}
				for _, e := range edges {
					try(b, c, d, e)
				}
			}
		}
	}
}

// What isn't right counts wherever it stands.
func TestWhereAPromptIsWrong(t *testing.T) {
	for _, wrong := range []string{"\x00", "\r", "\x1b", "\x7f", "\u0080", "\u009f", "\xff", "\x80", "\xc3", "\xe2\x82", "\xf0\x9f\x98", "\xed\xa0\x80"} {
		for _, c := range []string{"p", "\u00e4", "\u20ac", "\U0001f600", "\ufffd"} {
			for n := range 12 {
				for i := range n + 1 {
					s := strings.Repeat(c, i) + wrong + strings.Repeat(c, n-i)
					if got := Check(api.Ask{Prompt: s, Mode: 1}); got != api.ErrForm {
						t.Errorf("Check(%q): %d, want %d", s, got, api.ErrForm)
					}
				}
			}
		}
	}
}

// Just as many bytes as there may be, one fewer, one more, and many more, of characters of each width: it is bytes that count.
func TestLongPrompts(t *testing.T) {
	for _, c := range []string{"p", "\u00e4", "\u20ac", "\U0001f600"} {
		for n := range 600 {
			s := strings.Repeat(c, n/len(c)) + strings.Repeat("q", n%len(c))
			want := api.OK
			if n > 256 {
				want = api.ErrLong
			}
			if got := Check(api.Ask{Prompt: s}); got != want || len(s) != n {
				t.Errorf("Check of %d bytes of %q: %d, want %d", len(s), c, got, want)
			}
		}
	}
	for _, n := range []int{257, 512, 1024, 4096, 65536, 65536 + 4, 1 << 17} {
		checkWrong(t, api.Ask{Prompt: strings.Repeat("p", n)}, api.ErrLong)
		checkWrong(t, api.Ask{Prompt: strings.Repeat("\u00e4", n/2+1)}, api.ErrLong)
	}
	for _, s := range []string{strings.Repeat("p", 256), strings.Repeat("\u00e4", 128), strings.Repeat("\u20ac", 85) + "p", strings.Repeat("\U0001f600", 64)} {
		for mode := range 3 {
			check(t, api.Ask{Prompt: s, Mode: mode}, 1024, 0)
			check(t, api.Ask{Prompt: s, Mode: mode}, 1024, 1024)
			check(t, api.Ask{Prompt: s, Mode: mode}, 0, 0)
		}
	}
}

// A prompt that is wrong and too long is wrong, also behind as many bytes as there may be.
func TestPromptsThatAreWrongAndLong(t *testing.T) {
	for _, wrong := range []string{"\n", "\x7f", "\u009f", "\xff", "\xc3", "\xed\xa0\x80"} {
		for _, n := range []int{256, 257, 300, 5000} {
			long := strings.Repeat("p", n)
			for _, s := range []string{wrong + long, long + wrong, long + wrong + long} {
				checkWrong(t, api.Ask{Prompt: s}, api.ErrForm)
			}
		}
	}
	// As many characters as there may be bytes, the last one cut.
	checkWrong(t, api.Ask{Prompt: strings.Repeat("p", 255) + "\xc3"}, api.ErrForm)
	checkWrong(t, api.Ask{Prompt: (strings.Repeat("p", 255) + "\u00e4")[:256]}, api.ErrForm)
}

// What is asked wrongly in more than one way: the prompt's form goes ahead of how long it is, this one of the mode, this one of the room; all of them of the numbers.
func TestWrongInMoreThanOneWay(t *testing.T) {
	for ways := range 16 {
		a, want := api.Ask{Prompt: "pw: ", Mode: 1, Room: 4}, api.OK
		if ways&8 != 0 {
			a.Room, want = -1, api.ErrRange
		}
		if ways&4 != 0 {
			a.Mode, want = 3, api.ErrKind
		}
		if ways&2 != 0 {
			a.Prompt, want = strings.Repeat("p", 257), api.ErrLong
		}
		if ways&1 != 0 {
			a.Prompt, want = a.Prompt+"\r", api.ErrForm
		}
		if want != api.OK {
			checkWrong(t, a, want)
		} else if got := Check(a); got != api.OK {
			t.Errorf("Check(%v): %d", a, got)
		}
	}
}

func TestModes(t *testing.T) {
	for mode, want := range map[int]api.Errno{-1: api.ErrKind, 0: api.OK, 1: api.OK, 2: api.OK, 3: api.ErrKind} {
		if got := Check(api.Ask{Prompt: "pw: ", Mode: mode, Room: 4}); got != want {
			t.Errorf("Check of the mode %d: %d, want %d", mode, got, want)
		}
	}
	for _, mode := range noModes() {
		checkWrong(t, api.Ask{Prompt: "pw: ", Mode: mode, Room: 4}, api.ErrKind)
		checkWrong(t, api.Ask{Mode: mode}, api.ErrKind)
		checkWrong(t, api.Ask{Mode: mode, Room: -1}, api.ErrKind)
	}
}

// A room of any number from 0 on, also beyond all that there may be of a secret, or of an arena.
func TestRooms(t *testing.T) {
	for _, room := range []int{0, 1, 2, 4, 1023, 1024, 1025, 4096, 4097, math.MaxInt32, 1 << 40, math.MaxInt} {
		for mode := range 3 {
			if got := Check(api.Ask{Prompt: "pw: ", Mode: mode, Room: room}); got != api.OK {
				t.Errorf("Check of a room of %d: %d", room, got)
			}
		}
	}
	for _, room := range []int{-1, -2, -4, -1024, math.MinInt32, -1 << 32, math.MinInt + 1, math.MinInt} {
		for mode := range 3 {
			checkWrong(t, api.Ask{Prompt: "pw: ", Mode: mode, Room: room}, api.ErrRange)
			checkWrong(t, api.Ask{Mode: mode, Room: room}, api.ErrRange)
		}
	}
}

// P13.1: Render.

func TestLinesByHand(t *testing.T) {
	checkLine(t, "", 0, 0, 0, "\r\x1b[K")
	checkLine(t, "", 1, 0, 0, "\r\x1b[K")
	checkLine(t, "", 2, 0, 0, "\r\x1b[K")
	checkLine(t, "pw: ", 0, 0, 0, "\rpw: \x1b[K")
	checkLine(t, "pw: ", 0, 5, 0, "\rpw: \x1b[K")
	checkLine(t, "pw: ", 0, 1024, 3, "\rpw: \x1b[K")
	checkLine(t, "pw: ", 1, 0, 0, "\rpw: \x1b[K")
	checkLine(t, "pw: ", 1, 1, 0, "\rpw: *\x1b[K\x1b[1D")
	checkLine(t, "pw: ", 1, 1, 1, "\rpw: *\x1b[K")
	checkLine(t, "pw: ", 1, 9, 0, "\rpw: *********\x1b[K\x1b[9D")
	checkLine(t, "pw: ", 1, 10, 1, "\rpw: **********\x1b[K\x1b[9D")
	checkLine(t, "pw: ", 1, 10, 0, "\rpw: **********\x1b[K\x1b[10D")
	checkLine(t, "pw: ", 1, 11, 0, "\rpw: ***********\x1b[K\x1b[11D")
	checkLine(t, "pw: ", 1, 10, 10, "\rpw: **********\x1b[K")
	checkLine(t, "", 1, 1000, 0, "\r"+strings.Repeat("*", 1000)+"\x1b[K\x1b[1000D")
	checkLine(t, "", 1, 1000, 1, "\r"+strings.Repeat("*", 1000)+"\x1b[K\x1b[999D")
	checkLine(t, "", 1, 1024, 24, "\r"+strings.Repeat("*", 1024)+"\x1b[K\x1b[1000D")
	checkLine(t, "", 1, 1024, 0, "\r"+strings.Repeat("*", 1024)+"\x1b[K\x1b[1024D")
	checkLine(t, "", 1, 1024, 1024, "\r"+strings.Repeat("*", 1024)+"\x1b[K")
	checkLine(t, "pw: ", 2, 0, 0, "\rpw: \x1b[K")
	checkLine(t, "pw: ", 2, 1, 0, "\rpw: ********\x1b[K")
	checkLine(t, "pw: ", 2, 1, 1, "\rpw: ********\x1b[K")
	checkLine(t, "pw: ", 2, 8, 4, "\rpw: ********\x1b[K")
	checkLine(t, "pw: ", 2, 9, 0, "\rpw: ********\x1b[K")
	checkLine(t, "pw: ", 2, 1024, 0, "\rpw: ********\x1b[K")
	checkLine(t, "pw: ", 2, 1024, 1024, "\rpw: ********\x1b[K")
	checkLine(t, "\u00e4\u20ac\U0001f600", 1, 2, 1, "\r\u00e4\u20ac\U0001f600**\x1b[K\x1b[1D")
	checkLine(t, "%d *", 1, 2, 1, "\r%d ***\x1b[K\x1b[1D")
}

// All numbers that there may be, of each mode; in two of them a line is the same for nearly all.
func TestAllLines(t *testing.T) {
	for count := range mostSecret + 1 {
		for at := range count + 1 {
			check(t, api.Ask{Prompt: "\u20ac: ", Mode: 1, Room: 4}, count, at)
			checkCounts(t, 0, count, at)
			checkCounts(t, 2, count, at)
		}
	}
}

// Numbers that may not be, beside what is asked rightly: an error, and no bytes.
func TestLinesThatMayNotBe(t *testing.T) {
	for mode := range 3 {
		a := api.Ask{Prompt: "pw: ", Mode: mode, Room: 4}
		for _, c := range [][2]int{{0, 1}, {0, -1}, {-1, 0}, {-1, -1}, {-1, -2}, {-2, -1}, {3, 4}, {3, -1}, {3, 1024}, {1024, 1025}, {1024, -1}, {1025, 0}, {1025, 1024}, {1025, 1025}, {1025, 1026}, {math.MaxInt, 0}, {math.MaxInt, math.MaxInt}, {math.MinInt, 0}, {math.MinInt, math.MinInt}, {0, math.MinInt}, {0, math.MaxInt}, {math.MaxInt, math.MinInt}, {math.MinInt, math.MaxInt}} {
			check(t, a, c[0], c[1])
			if got, err := Render(a, c[0], c[1]); len(got) != 0 || err != api.ErrRange {
				t.Errorf("Render(%d; %d, %d): %.100q, %d, want nothing, %d", mode, c[0], c[1], got, err, api.ErrRange)
			}
		}
	}
}

// All sorts of what is asked, with all sorts of numbers.
func TestAllSorts(t *testing.T) {
	modes := append([]int{0, 1, 2}, noModes()...)
	for _, prompt := range prompts() {
		for _, mode := range modes {
			for _, room := range []int{0, 1, -1, 1024, math.MinInt, math.MaxInt} {
				for _, c := range [][2]int{{0, 0}, {1, 0}, {9, 9}, {1024, 24}, {1025, 0}, {3, 4}, {-1, -1}} {
					check(t, api.Ask{Prompt: prompt, Mode: mode, Room: room}, c[0], c[1])
				}
			}
		}
	}
	for _, mode := range modes {
		for _, count := range counts() {
			for _, at := range counts() {
				check(t, api.Ask{Prompt: "pw: ", Mode: mode}, count, at)
			}
		}
	}
}

// P13.2: Stars and Place.

func TestStarsByHand(t *testing.T) {
	for _, c := range []struct{ mode, count, want int }{
		{0, 0, 0}, {0, 1, 0}, {0, 7, 0}, {0, 1024, 0}, {0, 1025, 0}, {0, -1, 0},
		{1, 0, 0}, {1, 1, 1}, {1, 7, 7}, {1, 1023, 1023}, {1, 1024, 1024}, {1, 1025, 0}, {1, -1, 0}, {1, math.MaxInt, 0}, {1, math.MinInt, 0},
		{2, 0, 0}, {2, 1, 8}, {2, 7, 8}, {2, 8, 8}, {2, 9, 8}, {2, 1024, 8}, {2, 1025, 0}, {2, -1, 0}, {2, math.MaxInt, 0}, {2, math.MinInt, 0},
		{3, 7, 0}, {-1, 7, 0}, {math.MaxInt, 7, 0}, {math.MinInt, 7, 0},
	} {
		if got := Stars(c.mode, c.count); got != c.want {
			t.Errorf("Stars(%d, %d): %d, want %d", c.mode, c.count, got, c.want)
		}
	}
}

func TestPlacesByHand(t *testing.T) {
	for _, c := range []struct{ mode, count, at, want int }{
		{0, 0, 0, 0}, {0, 7, 0, 0}, {0, 7, 3, 0}, {0, 7, 7, 0}, {0, 1024, 1024, 0},
		{1, 0, 0, 0}, {1, 7, 0, 0}, {1, 7, 3, 3}, {1, 7, 7, 7}, {1, 1024, 1023, 1023}, {1, 1024, 1024, 1024},
		{1, 7, 8, 0}, {1, 7, -1, 0}, {1, -1, -1, 0}, {1, 1025, 3, 0}, {1, 1025, 1025, 0}, {1, math.MaxInt, 3, 0}, {1, math.MaxInt, math.MaxInt, 0}, {1, math.MinInt, math.MinInt, 0},
		{2, 0, 0, 0}, {2, 1, 0, 8}, {2, 1, 1, 8}, {2, 7, 3, 8}, {2, 9, 9, 8}, {2, 1024, 0, 8},
		{2, 7, 8, 0}, {2, 7, -1, 0}, {2, -1, -1, 0}, {2, 1025, 3, 0}, {2, math.MinInt, math.MinInt, 0},
		{3, 7, 3, 0}, {-1, 7, 3, 0}, {math.MaxInt, 7, 3, 0}, {math.MinInt, 7, 3, 0},
	} {
		if got := Place(c.mode, c.count, c.at); got != c.want {
			t.Errorf("Place(%d, %d, %d): %d, want %d", c.mode, c.count, c.at, got, c.want)
		}
	}
}

// Beyond the numbers that there may be, on all sides, and of no mode: nothing.
func TestNoStars(t *testing.T) {
	for mode := -2; mode < 6; mode++ {
		for count := -20; count < 40; count++ {
			for at := -20; at < 60; at++ {
				checkCounts(t, mode, count, at)
			}
		}
		for count := 1000; count < 1060; count++ {
			for _, at := range []int{-1, 0, 1, 8, count - 1, count, count + 1, 1023, 1024, 1025} {
				checkCounts(t, mode, count, at)
			}
		}
	}
	for _, mode := range noModes() {
		for _, count := range counts() {
			if got := Stars(mode, count); got != 0 {
				t.Errorf("Stars(%d, %d): %d", mode, count, got)
			}
			for _, at := range counts() {
				if got := Place(mode, count, at); got != 0 {
					t.Errorf("Place(%d, %d, %d): %d", mode, count, at, got)
				}
			}
		}
	}
}

// P13.3.

func TestSigns(t *testing.T) {
	for name, c := range map[string]struct {
		sign func() []byte
		want []byte
	}{
		"Bell":  {Bell, []byte{7}},
		"Start": {Start, []byte{27, '[', '?', '2', '0', '0', '4', 'h'}},
		"Stop":  {Stop, []byte{27, '[', '?', '2', '0', '0', '4', 'l'}},
		"Close": {Close, []byte{13, 10}},
	} {
		for range 2 {
			got := c.sign()
			if !slices.Equal(got, c.want) {
				t.Errorf("%s: %q, want %q", name, got, c.want)
			}
			// It is the caller's own: what is done to it, or laid behind it, is in no other one.
			clear(got)
			clear(append(got, 1, 2, 3)[:cap(got)])
		}
	}
}

// P13.4.

// A Room that may be makes no difference, nor does what was asked ahead.
func TestWhatALineHangsOn(t *testing.T) {
	for mode := range 3 {
		for _, c := range [][2]int{{0, 0}, {3, 1}, {1024, 0}} {
			first, _ := Render(api.Ask{Prompt: "pw: ", Mode: mode}, c[0], c[1])
			for _, room := range []int{1, 2, 3, 1024, 4096, math.MaxInt} {
				Render(api.Ask{Prompt: "another one", Mode: 1, Room: room}, 700, 7)
				got, err := Render(api.Ask{Prompt: "pw: ", Mode: mode, Room: room}, c[0], c[1])
				if !bytes.Equal(got, first) || err != api.OK {
					t.Errorf("a room of %d: %.100q, %d, want %.100q", room, got, err, first)
				}
			}
		}
	}
}

// In the mode Off, and in Fixed, also how many characters there are, and where the place is, can't be seen.
func TestWhatALineHangsNotOn(t *testing.T) {
	for mode, want := range map[int]string{0: "\rpw: \x1b[K", 2: "\rpw: ********\x1b[K"} {
		for count := 1; count <= mostSecret; count++ {
			for _, at := range []int{0, 1, count / 2, count - 1, count} {
				if got, err := Render(api.Ask{Prompt: "pw: ", Mode: mode}, count, at); string(got) != want || err != api.OK {
					t.Fatalf("the mode %d, %d, %d: %q, %d, want %q", mode, count, at, got, err, want)
				}
			}
		}
	}
}

// Each answer is the caller's own.
func TestChangedLines(t *testing.T) {
	for mode := range 3 {
		a := api.Ask{Prompt: "pw: ", Mode: mode}
		want, _ := modelRender(a, 12, 2)
		one, _ := Render(a, 12, 2)
		other, _ := Render(a, 12, 2)
		clear(one)
		clear(append(one, 1, 2, 3)[:cap(one)])
		again, _ := Render(a, 12, 2)
		if string(other) != want || string(again) != want || a.Prompt != "pw: " {
			t.Errorf("the mode %d: %q, %q, want %q", mode, other, again, want)
		}
	}
}

// How many bytes a line has at most: the prompt's, a star's each, and twenty.
func TestHowManyBytesALineHas(t *testing.T) {
	for _, prompt := range prompts() {
		for mode := range 3 {
			for _, count := range counts() {
				for _, at := range counts() {
					got, err := Render(api.Ask{Prompt: prompt, Mode: mode}, count, at)
					if most := len(prompt) + Stars(mode, count) + 20; len(got) > most {
						t.Errorf("Render(%.100q, %d; %d, %d): %d bytes, at most %d", prompt, mode, count, at, len(got), most)
					}
					if err == api.OK && bytes.Count(got, []byte("*")) != strings.Count(prompt, "*")+Stars(mode, count) {
						t.Errorf("Render(%.100q, %d; %d, %d): not as many stars as %d", prompt, mode, count, at, Stars(mode, count))
					}
				}
			}
		}
	}
}

// What somebody sees: the prompt and the stars, whatever stood there, and the place behind those ahead of it.
func TestWhatIsSeen(t *testing.T) {
	for _, prompt := range prompts() {
		if modelCheck(api.Ask{Prompt: prompt}) != api.OK {
			continue
		}
		for mode := range 3 {
			for _, count := range []int{0, 1, 2, 8, 9, 10, 11, 100, 1000, 1001, 1023, 1024} {
				for _, at := range []int{0, 1, 2, count / 2, count - 11, count - 10, count - 9, count - 1, count} {
					b, err := Render(api.Ask{Prompt: prompt, Mode: mode}, count, at)
					if err != api.OK {
						continue
					}
					row, column := seen(t, old, b)
					if want := prompt + strings.Repeat("*", Stars(mode, count)); row != want {
						t.Errorf("Render(%.100q, %d; %d, %d) shows %.100q", prompt, mode, count, at, row)
					}
					if want := len([]rune(prompt)) + Place(mode, count, at); column != want {
						t.Errorf("Render(%.100q, %d; %d, %d): the place is at %d, want %d", prompt, mode, count, at, column, want)
					}
				}
			}
		}
	}
}

// Numbers by a rule, most of them near what may be.
func TestNumbersOfAllSorts(t *testing.T) {
	all := prompts()
	for x, i := uint64(1), 0; i < 20000; i++ {
		x = x*6364136223846793005 + 1442695040888963407
		prompt := all[i%len(all)]
		mode, room := int(x>>8%5)-1, int(x>>12%6)-1
		count, at := int(x>>16%1040)-6, int(x>>32%1040)-6
		check(t, api.Ask{Prompt: prompt, Mode: mode, Room: room}, count, at)
		check(t, api.Ask{Prompt: prompt, Mode: mode, Room: room}, count, at%(max(count, 1)+1))
		check(t, api.Ask{Prompt: prompt, Mode: int(x), Room: int(x << 3)}, int(x<<7), int(x<<11))
	}
}

func TestManyGoroutines(t *testing.T) {
	var wait sync.WaitGroup
	for g := range 8 {
		wait.Go(func() {
			for i := range 300 {
				count := (i*7 + g*100) % (mostSecret + 1)
				check(t, api.Ask{Prompt: prompts()[i%len(prompts())], Mode: i % 3, Room: g}, count, count/(g+1))
				for _, sign := range [][]byte{Bell(), Start(), Stop(), Close()} {
					if slices.Contains(sign, 0) {
						t.Errorf("a sign is %q", sign)
					}
					clear(sign)
				}
			}
		})
	}
	wait.Wait()
}

func FuzzAgainstModel(f *testing.F) {
	for i, prompt := range prompts() {
		f.Add(prompt, i%4, i%5-1, i*40, i*i)
	}
	for i, mode := range noModes() {
		f.Add("pw: ", mode, i, i, 0)
	}
	for i, count := range counts() {
		f.Add("pw: ", i%3, 0, count, count-1)
	}
	f.Fuzz(func(t *testing.T, prompt string, mode, room, count, at int) {
		check(t, api.Ask{Prompt: prompt, Mode: mode, Room: room}, count, at)
		check(t, api.Ask{Prompt: prompt, Mode: mode & 3, Room: room & math.MaxInt}, count&1023, at&count&1023)
	})
}
