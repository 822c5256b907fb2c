package keys

import (
	"encoding/binary"
	"fmt"
	"math"
	"regexp"
	"slices"
	"strings"
	"sync"
	"testing"

	"whisperer/api"
)

// The model: the chapter's sentences by hand. Bytes are laid by the divisions of chapter 1, and texts are read by a form.

func sixteenNames() []string {
	return strings.Fields("rune enter back delete left right home last killstart killend redraw cancel eof pastestart pasteend ignored")
}

func modelShown(c int) bool {
	return c >= 32 && c < 127 || c > 159 && c < 55296 || c > 57343 && c < 1114112
}

func modelOf(c int) api.Key {
	if modelShown(c) {
		return api.Key{Kind: 0, C: c}
	}
	switch c {
	case 13, 10:
		return api.Key{Kind: 1}
	case 8, 127:
		return api.Key{Kind: 2}
	case 2:
		return api.Key{Kind: 4}
	case 6:
		return api.Key{Kind: 5}
	case 1:
		return api.Key{Kind: 6}
	case 5:
		return api.Key{Kind: 7}
	case 21:
		return api.Key{Kind: 8}
	case 11:
		return api.Key{Kind: 9}
	case 12:
		return api.Key{Kind: 10}
	case 3:
		return api.Key{Kind: 11}
	case 4:
		return api.Key{Kind: 12}
	}
	return api.Key{Kind: 15}
}

func modelErr(k api.Key) api.Errno {
	switch {
	case k.Kind < 0 || k.Kind > 15:
		return api.ErrKind
	case k.Kind == 0 && !modelShown(k.C), k.Kind > 0 && k.C != 0:
		return api.ErrArg
	}
	return api.OK
}

func modelCharacter(c int) []byte {
	switch {
	case c < 128:
		return []byte{byte(c)}
	case c < 2048:
		return []byte{byte(192 + c/64), byte(128 + c%64)}
	case c < 65536:
		return []byte{byte(224 + c/4096), byte(128 + c/64%64), byte(128 + c%64)}
	}
	return []byte{byte(240 + c/262144), byte(128 + c/4096%64), byte(128 + c/64%64), byte(128 + c%64)}
}

func modelBytes(k api.Key) ([]byte, api.Errno) {
	if err := modelErr(k); err != api.OK {
		return nil, err
	}
	if k.Kind == 0 {
		return modelCharacter(k.C), api.OK
	}
	return [][]byte{1: {13}, 2: {127}, 3: {27, 91, 51, 126}, 4: {2}, 5: {6}, 6: {1}, 7: {5}, 8: {21}, 9: {11}, 10: {12}, 11: {3}, 12: {4}, 13: {27, 91, 50, 48, 48, 126}, 14: {27, 91, 50, 48, 49, 126}, 15: {0}}[k.Kind], api.OK
}

func modelText(k api.Key) (string, api.Errno) {
	if err := modelErr(k); err != api.OK {
		return "", err
	}
	if k.Kind == 0 {
		return fmt.Sprintf("rune %d", k.C), api.OK
	}
	return sixteenNames()[k.Kind], api.OK
}

var runeForm = regexp.MustCompile(`\Arune ([1-9][0-9]{1,6})\z`)

func modelRead(s string) (api.Key, api.Errno) {
	if kind := slices.Index(sixteenNames(), s); kind > 0 {
		return api.Key{Kind: kind}, api.OK
	}
	m := runeForm.FindStringSubmatch(s)
	if m == nil {
		return api.Key{}, api.ErrForm
	}
	c := 0
	for _, digit := range m[1] {
		c = c*10 + int(digit-'0')
	}
	if !modelShown(c) {
		return api.Key{}, api.ErrForm
	}
	return api.Key{C: c}, api.OK
}

// numbers are n of 64 bits, of all sorts, by a rule.
func numbers(n int) []uint64 {
	l := make([]uint64, n)
	x := uint64(1)
	for i := range l {
		x = x*6364136223846793005 + 1442695040888963407
		l[i] = x ^ x>>29
	}
	return l
}

// edges are the numbers about which something changes: what may be shown, how many bytes a character has, what is one, what fits in fewer bits.
func edges() []int {
	var l []int
	for _, n := range []int{-1 << 32, -1 << 31, -1114112, -128, -65, 0, 32, 127, 128, 160, 228, 255, 256, 2048, 55296, 57344, 65533, 65536, 1114112, 1 << 21, 1 << 31, 1 << 32, 1<<32 + 13, 1<<32 + 65, 1<<32 + 127, 1<<40 + 65, 1<<62 + 10} {
		for d := -3; d <= 3; d++ {
			l = append(l, n+d)
		}
	}
	for d := range 4 {
		l = append(l, math.MinInt+d, math.MaxInt-d, math.MinInt32+d, math.MaxInt32-d)
	}
	return l
}

// someNumbers are the edges, all small ones, and many by a rule.
func someNumbers() []int {
	l := edges()
	for c := -300; c < 3000; c++ {
		l = append(l, c)
	}
	for _, x := range numbers(5000) {
		l = append(l, int(x), int(x%1200000), int(x>>(x%64)), -int(x%1200000))
	}
	slices.Sort(l)
	return slices.Compact(l)
}

func checkOf(t *testing.T, c int) {
	t.Helper()
	if got, want := Of(c), modelOf(c); got != want {
		t.Errorf("Of(%d): %v, want %v", c, got, want)
	}
}

func checkBytes(t *testing.T, k api.Key) {
	t.Helper()
	want, wantErr := modelBytes(k)
	got, err := Bytes(k)
	if !slices.Equal(got, want) || err != wantErr {
		t.Errorf("Bytes(%v): %v, %d, want %v, %d", k, got, err, want, wantErr)
	}
}

func checkText(t *testing.T, k api.Key) {
	t.Helper()
	want, wantErr := modelText(k)
	got, err := Text(k)
	if got != want || err != wantErr {
		t.Errorf("Text(%v): %q, %d, want %q, %d", k, got, err, want, wantErr)
	}
	if err != api.OK {
		return
	}
	if back, err := Read(got); back != k || err != api.OK {
		t.Errorf("Read(%q): %v, %d, want %v", got, back, err, k)
	}
}

func checkKey(t *testing.T, k api.Key) {
	t.Helper()
	checkBytes(t, k)
	checkText(t, k)
}

func checkRead(t *testing.T, s string) {
	t.Helper()
	want, wantErr := modelRead(s)
	got, err := Read(s)
	if got != want || err != wantErr {
		t.Errorf("Read(%.200q): %v, %d, want %v, %d", s, got, err, want, wantErr)
	}
	if err != api.OK {
		return
	}
	if text, err := Text(got); text != s || err != api.OK {
		t.Errorf("Read(%q): %v, of the text %q, %d", s, got, text, err)
	}
}

func checkNone(t *testing.T, s string) {
	t.Helper()
	if k, err := Read(s); k != (api.Key{}) || err != api.ErrForm {
		t.Errorf("Read(%.200q): %v, %d, want none, %d", s, k, err, api.ErrForm)
	}
}

// P8.1.

func TestOfByHand(t *testing.T) {
	for _, x := range []struct {
		c    int
		want api.Key
	}{
		{13, api.Key{Kind: api.Enter}},
		{10, api.Key{Kind: api.Enter}},
		{8, api.Key{Kind: api.Back}},
		{127, api.Key{Kind: api.Back}},
		{2, api.Key{Kind: api.Left}},
		{6, api.Key{Kind: api.Right}},
		{1, api.Key{Kind: api.Home}},
		{5, api.Key{Kind: api.Last}},
		{21, api.Key{Kind: api.KillStart}},
		{11, api.Key{Kind: api.KillEnd}},
		{12, api.Key{Kind: api.Redraw}},
		{3, api.Key{Kind: api.Cancel}},
		{4, api.Key{Kind: api.Eof}},
		// Neighbours of these that are none.
		{0, api.Key{Kind: api.Ignored}},
		{7, api.Key{Kind: api.Ignored}},
		{9, api.Key{Kind: api.Ignored}},
		{14, api.Key{Kind: api.Ignored}},
		{20, api.Key{Kind: api.Ignored}},
		{22, api.Key{Kind: api.Ignored}},
		{26, api.Key{Kind: api.Ignored}},
		{27, api.Key{Kind: api.Ignored}},
		{28, api.Key{Kind: api.Ignored}},
		// The edges of what may be shown.
		{31, api.Key{Kind: api.Ignored}},
		{32, api.Key{C: 32}},
		{65, api.Key{C: 65}},
		{126, api.Key{C: 126}},
		{128, api.Key{Kind: api.Ignored}},
		{155, api.Key{Kind: api.Ignored}},
		{159, api.Key{Kind: api.Ignored}},
		{160, api.Key{C: 160}},
		{2047, api.Key{C: 2047}},
		{2048, api.Key{C: 2048}},
		{55295, api.Key{C: 55295}},
		{55296, api.Key{Kind: api.Ignored}},
		{57343, api.Key{Kind: api.Ignored}},
		{57344, api.Key{C: 57344}},
		{65533, api.Key{C: 65533}},
		{65535, api.Key{C: 65535}},
		{65536, api.Key{C: 65536}},
		{1114111, api.Key{C: 1114111}},
		// What is no character.
		{1114112, api.Key{Kind: api.Ignored}},
		{-1, api.Key{Kind: api.Ignored}},
		{-13, api.Key{Kind: api.Ignored}},
		{-65, api.Key{Kind: api.Ignored}},
		{1<<32 + 13, api.Key{Kind: api.Ignored}},
		{1<<32 + 65, api.Key{Kind: api.Ignored}},
		{math.MaxInt, api.Key{Kind: api.Ignored}},
		{math.MinInt, api.Key{Kind: api.Ignored}},
		{math.MinInt + 13, api.Key{Kind: api.Ignored}},
	} {
		if got := Of(x.c); got != x.want {
			t.Errorf("Of(%d): %v, want %v", x.c, got, x.want)
		}
	}
}

func TestOfAllCharactersAndOthers(t *testing.T) {
	for c := -2000; c < 1114112+2000; c++ {
		checkOf(t, c)
	}
	for _, c := range someNumbers() {
		checkOf(t, c)
	}
}

func TestNames(t *testing.T) {
	want := []string{"rune", "enter", "back", "delete", "left", "right", "home", "last", "killstart", "killend", "redraw", "cancel", "eof", "pastestart", "pasteend", "ignored"}
	if got := Names(); !slices.Equal(got, want) {
		t.Errorf("Names: %q", got)
	}
	for kind, name := range Names() {
		if kind == api.Rune {
			name = "rune 33"
		}
		k, err := Read(name)
		if k.Kind != kind || err != api.OK {
			t.Errorf("the name %q: %v, %d", name, k, err)
		}
	}
}

// Who changes a list that was told changes nothing else: neither another list, nor texts.
func TestNamesBehindAChangeOfAList(t *testing.T) {
	first, second := Names(), Names()
	for i := range first {
		first[i] = "changed"
	}
	_ = append(first[:0], "x", "y")
	if !slices.Equal(second, sixteenNames()) || !slices.Equal(Names(), sixteenNames()) {
		t.Errorf("Names behind a change: %q, %q", second, Names())
	}
	for kind := 1; kind < 16; kind++ {
		checkKey(t, api.Key{Kind: kind})
	}
	checkKey(t, api.Key{C: 65})
	checkNone(t, "changed")
	checkNone(t, "changed 65")
	for _, name := range first[:cap(first)][len(first):] {
		if name != "" {
			t.Errorf("%q lies behind the list", name)
		}
	}
}

func TestBytesByHand(t *testing.T) {
	for _, x := range []struct {
		k    api.Key
		want string
	}{
		{api.Key{Kind: api.Enter}, "\r"},
		{api.Key{Kind: api.Back}, "\x7f"},
		{api.Key{Kind: api.Delete}, "\x1b[3~"},
		{api.Key{Kind: api.Left}, "\x02"},
		{api.Key{Kind: api.Right}, "\x06"},
		{api.Key{Kind: api.Home}, "\x01"},
		{api.Key{Kind: api.Last}, "\x05"},
		{api.Key{Kind: api.KillStart}, "\x15"},
		{api.Key{Kind: api.KillEnd}, "\x0b"},
		{api.Key{Kind: api.Redraw}, "\x0c"},
		{api.Key{Kind: api.Cancel}, "\x03"},
		{api.Key{Kind: api.Eof}, "\x04"},
		{api.Key{Kind: api.PasteStart}, "\x1b[200~"},
		{api.Key{Kind: api.PasteEnd}, "\x1b[201~"},
		{api.Key{Kind: api.Ignored}, "\x00"},
		{api.Key{C: 32}, " "},
		{api.Key{C: 65}, "A"},
		{api.Key{C: 126}, "~"},
		{api.Key{C: 160}, "\xc2\xa0"},
		{api.Key{C: 228}, "\xc3\xa4"},
		{api.Key{C: 2047}, "\xdf\xbf"},
		{api.Key{C: 2048}, "\xe0\xa0\x80"},
		{api.Key{C: 55295}, "\xed\x9f\xbf"},
		{api.Key{C: 57344}, "\xee\x80\x80"},
		{api.Key{C: 65533}, "\xef\xbf\xbd"},
		{api.Key{C: 65535}, "\xef\xbf\xbf"},
		{api.Key{C: 65536}, "\xf0\x90\x80\x80"},
		{api.Key{C: 1114111}, "\xf4\x8f\xbf\xbf"},
	} {
		if got, err := Bytes(x.k); string(got) != x.want || err != api.OK {
			t.Errorf("Bytes(%v): %v, %d, want %v", x.k, got, err, []byte(x.want))
		}
	}
}

// Keys that there aren't: of no kind, whatever C is; of a C that may not be.
func TestKeysThatAreNone(t *testing.T) {
	for _, x := range []struct {
		k    api.Key
		want api.Errno
	}{
		{api.Key{Kind: -1}, api.ErrKind},
		{api.Key{Kind: 16}, api.ErrKind},
		{api.Key{Kind: 17, C: 65}, api.ErrKind},
		{api.Key{Kind: -1, C: 65}, api.ErrKind},
		{api.Key{Kind: -1, C: -1}, api.ErrKind},
		{api.Key{Kind: 16, C: 10}, api.ErrKind},
		{api.Key{Kind: 256}, api.ErrKind},
		{api.Key{Kind: 1 << 32}, api.ErrKind},
		{api.Key{Kind: 1<<32 + 1}, api.ErrKind},
		{api.Key{Kind: math.MaxInt}, api.ErrKind},
		{api.Key{Kind: math.MinInt}, api.ErrKind},
		{api.Key{Kind: math.MinInt, C: math.MinInt}, api.ErrKind},
		{api.Key{}, api.ErrArg},
		{api.Key{C: -1}, api.ErrArg},
		{api.Key{C: -65}, api.ErrArg},
		{api.Key{C: 10}, api.ErrArg},
		{api.Key{C: 27}, api.ErrArg},
		{api.Key{C: 31}, api.ErrArg},
		{api.Key{C: 127}, api.ErrArg},
		{api.Key{C: 128}, api.ErrArg},
		{api.Key{C: 159}, api.ErrArg},
		{api.Key{C: 55296}, api.ErrArg},
		{api.Key{C: 57343}, api.ErrArg},
		{api.Key{C: 1114112}, api.ErrArg},
		{api.Key{C: 1<<32 + 65}, api.ErrArg},
		{api.Key{C: math.MaxInt}, api.ErrArg},
		{api.Key{C: math.MinInt}, api.ErrArg},
		{api.Key{Kind: 1, C: 13}, api.ErrArg},
		{api.Key{Kind: 1, C: 65}, api.ErrArg},
		{api.Key{Kind: 2, C: -1}, api.ErrArg},
		{api.Key{Kind: 3, C: 1}, api.ErrArg},
		{api.Key{Kind: 14, C: math.MinInt}, api.ErrArg},
		{api.Key{Kind: 15, C: 1}, api.ErrArg},
		{api.Key{Kind: 15, C: math.MaxInt}, api.ErrArg},
		{api.Key{Kind: 15, C: 1 << 32}, api.ErrArg},
	} {
		if got, err := Bytes(x.k); len(got) != 0 || err != x.want {
			t.Errorf("Bytes(%v): %v, %d, want none, %d", x.k, got, err, x.want)
		}
		if got, err := Text(x.k); got != "" || err != x.want {
			t.Errorf("Text(%v): %q, %d, want none, %d", x.k, got, err, x.want)
		}
	}
}

// Each kind, and kinds that are none, with each of the edges as C.
func TestBytesAndTextsOfAllKinds(t *testing.T) {
	all := []int{math.MinInt, math.MinInt + 1, math.MinInt32, -256, 31, 32, 255, 256, 65536, 1 << 32, 1<<32 + 3, math.MaxInt - 1, math.MaxInt}
	for kind := -20; kind < 40; kind++ {
		all = append(all, kind)
	}
	for _, kind := range all {
		checkKey(t, api.Key{Kind: kind})
		for _, c := range edges() {
			checkKey(t, api.Key{Kind: kind, C: c})
		}
	}
}

func TestBytesAndTextsOfAllRunes(t *testing.T) {
	for c := -10; c < 1114112+10; c++ {
		checkBytes(t, api.Key{C: c})
	}
	for _, c := range someNumbers() {
		checkKey(t, api.Key{C: c})
	}
}

// Who changes bytes that were told changes no others, and nothing lies behind them.
func TestBytesBehindAChangeOfAList(t *testing.T) {
	for kind := range 16 {
		k := api.Key{Kind: kind}
		if kind == 0 {
			k.C = 8364
		}
		first, _ := Bytes(k)
		second, _ := Bytes(k)
		want, _ := modelBytes(k)
		for _, c := range first[:cap(first)][len(first):] {
			if c != 0 {
				t.Errorf("%d lies behind the bytes of %v", c, k)
			}
		}
		for i := range first {
			first[i] = 'x'
		}
		_ = append(first, 1, 2, 3, 4, 5, 6, 7, 8)
		if !slices.Equal(second, want) {
			t.Errorf("the bytes of %v behind a change of others: %v", k, second)
		}
		checkKey(t, k)
	}
}

// P8.2.

func TestTextsByHand(t *testing.T) {
	for _, x := range []struct {
		k    api.Key
		text string
	}{
		{api.Key{C: 65}, "rune 65"},
		{api.Key{C: 32}, "rune 32"},
		{api.Key{C: 99}, "rune 99"},
		{api.Key{C: 100}, "rune 100"},
		{api.Key{C: 126}, "rune 126"},
		{api.Key{C: 160}, "rune 160"},
		{api.Key{C: 2048}, "rune 2048"},
		{api.Key{C: 55295}, "rune 55295"},
		{api.Key{C: 57344}, "rune 57344"},
		{api.Key{C: 1114111}, "rune 1114111"},
		{api.Key{Kind: 1}, "enter"},
		{api.Key{Kind: 2}, "back"},
		{api.Key{Kind: 3}, "delete"},
		{api.Key{Kind: 4}, "left"},
		{api.Key{Kind: 5}, "right"},
		{api.Key{Kind: 6}, "home"},
		{api.Key{Kind: 7}, "last"},
		{api.Key{Kind: 8}, "killstart"},
		{api.Key{Kind: 9}, "killend"},
		{api.Key{Kind: 10}, "redraw"},
		{api.Key{Kind: 11}, "cancel"},
		{api.Key{Kind: 12}, "eof"},
		{api.Key{Kind: 13}, "pastestart"},
		{api.Key{Kind: 14}, "pasteend"},
		{api.Key{Kind: 15}, "ignored"},
	} {
		if got, err := Text(x.k); got != x.text || err != api.OK {
			t.Errorf("Text(%v): %q, %d, want %q", x.k, got, err, x.text)
		}
		if got, err := Read(x.text); got != x.k || err != api.OK {
			t.Errorf("Read(%q): %v, %d, want %v", x.text, got, err, x.k)
		}
	}
}

func TestNoTexts(t *testing.T) {
	for _, s := range []string{
		// None at all; names that aren't, or not quite.
		"", " ", "  ", "other", "x", "e", "ente", "enterr", "nter", "enterenter", "killstar", "kill", "start", "paste", "end", "pasteStart", "kill start", "kill-end", "killstart+killend", "key", "none", "-", "0", "1", "15", "65", "tab", "esc", "escape", "up", "down", "backspace", "del", "ctrl",
		// A name in other letters.
		"Enter", "ENTER", "eNTER", "Rune 65", "RUNE 65", "rUNE 65", "KillStart", "PasteEnd", "Ignored", "EOF", "Eof", "\uff45nter", "ent\u00e9r",
		// A blank at the start, at the end, or twice; another byte for one.
		" enter", "enter ", " enter ", "  enter", "enter  ", "enter\t", "\tenter", "enter\n", "\nenter", "enter\r", "enter\x00", "\x00enter", "en ter", "enter\u00a0", "\ufeffenter",
		" rune 65", "rune 65 ", "rune  65", "  rune 65", "rune 65  ", "rune   65", "rune\t65", "rune\n65", "rune 65\n", "rune 65\t", "rune\u00a065", "rune_65", "rune-65", "rune:65", "rune,65", "rune \t65", "rune\x0065", "rune 65\x00", "ru ne 65", "r une 65", "rune 6 5",
		// A rune without a number, with two, or with another thing.
		"rune", "rune ", "rune  ", "rune65", "rune A", "rune a", "rune x", "rune rune", "rune enter", "rune 65 65", "rune 65 66", "rune 65 0", "rune 65,66", "rune 65 rune 66", "rune 65\nrune 66", "rune -", "rune +", "rune .", "rune \xc3\xa4", "rune U+0041", "65 rune", "65", " 65",
		// A number with a sign, with a 0 ahead, in other digits.
		"rune +65", "rune -65", "rune -0", "rune +0", "rune --65", "rune 065", "rune 0065", "rune 00", "rune 01114111", "rune 0x41", "rune 0X41", "rune 0b1000001", "rune 0o101", "rune 0101", "rune x41", "rune 41h", "rune 4f", "rune ff", "rune 6_5", "rune 1_00", "rune 65.", "rune 65.0", "rune .65", "rune 6.5e1", "rune 65e0", "rune 1e2", "rune \u0666\u0665", "rune \uff16\uff15", "rune 6\u0665", "rune \u00b2\u00b2\u00b2", "rune 65a", "rune a65",
		// A character that may not be shown; no character at all.
		"rune 0", "rune 1", "rune 9", "rune 10", "rune 13", "rune 27", "rune 31", "rune 127", "rune 128", "rune 155", "rune 159", "rune 55296", "rune 56000", "rune 57343", "rune 1114112", "rune 1114113", "rune 9999999", "rune 10000000",
		// Numbers that wrap round to a character, or are greater than there may be.
		"rune 4294967361", "rune 4294967296", "rune 2147483647", "rune 2147483648", "rune 9223372036854775807", "rune 9223372036854775808", "rune 9223372036854775873", "rune 18446744073709551615", "rune 18446744073709551616", "rune 18446744073709551681", "rune -9223372036854775808", "rune -18446744073709551551", "rune 340282366920938463463374607431768211521", "rune 99999999999999999999999999999999",
		// Another kind's name with something behind.
		"enter 0", "enter 1", "enter 13", "enter 65", "enter -1", "back 0", "delete 3", "left 4", "right 0", "home 0", "last 0", "killstart 0", "killend 0", "redraw 0", "cancel 0", "eof 0", "pastestart 200", "pasteend 201", "ignored 0", "ignored 15", "enter enter", "enter back", "enter,back", "enter\nback", "enter 9223372036854775808", "enter x", "other 65", "-1 65", " 0",
		// Any bytes.
		"\x00", "\xff", "\x1b", "\r", "\x1b[3~", "A", "enter\xff", "\xffenter", "rune \xff", "rune 65\xff", "rune\xff65", "\x80", "\u2028", "\u00e4",
	} {
		checkNone(t, s)
		if _, err := modelRead(s); err != api.ErrForm {
			t.Errorf("the model reads %q", s)
		}
	}
}

// Each kind's name with what may stand ahead, between, or behind.
func TestEachNameAndWhatMayNotBe(t *testing.T) {
	for _, name := range sixteenNames() {
		for _, tail := range []string{"", " ", "  ", " 0", " 00", " 1", " 33", " 65", " 033", " +33", " -33", " 33 ", "  33", " 33 33", " 1114112", " 9223372036854775808", " x", "\t33", "33", "\n", "\x00"} {
			for _, head := range []string{"", " ", "\t", "0", "x", "33 ", "\x00"} {
				checkRead(t, head+name+tail)
				checkRead(t, head+strings.ToUpper(name)+tail)
				checkRead(t, head+strings.ToUpper(name[:1])+name[1:]+tail)
			}
		}
		for _, other := range sixteenNames() {
			checkRead(t, name+other)
			checkRead(t, name+" "+other)
			checkRead(t, name[:len(name)/2]+other[len(other)/2:])
		}
	}
}

func TestReadOfAllNumbers(t *testing.T) {
	for c := -100; c < 1114112+100000; c++ {
		if c < 3000 || c > 1114000 || c%7 == 0 || c > 55000 && c < 57500 {
			checkRead(t, fmt.Sprintf("rune %d", c))
		}
	}
	for _, c := range someNumbers() {
		checkRead(t, fmt.Sprintf("rune %d", c))
		checkRead(t, fmt.Sprintf("rune %d", uint64(c)))
		checkRead(t, fmt.Sprintf("enter %d", c))
	}
}

// All rows of up to 4 digits, zeros ahead among them.
func TestAllRowsOfDigits(t *testing.T) {
	bound := 1
	for digits := range 5 {
		for n := range bound {
			text := ""
			if digits > 0 {
				text = fmt.Sprintf("%0*d", digits, n)
			}
			checkRead(t, "rune "+text)
		}
		bound *= 10
	}
}

func TestLongTexts(t *testing.T) {
	const many = 1 << 20
	for _, part := range []string{"enter", "enter ", "rune ", "rune 65 ", " ", "0", "6", "9", "-", "+", "x", "\xff", "\x00", "ignored\n"} {
		row := strings.Repeat(part, many/len(part))
		for _, s := range []string{row, row + "enter", "enter" + row, "rune " + row, "rune 65" + row, "rune" + row + "65", "rune 0" + row, row + "rune 65", "enter " + row} {
			checkNone(t, s)
		}
	}
}

// near are all texts that are made of s by one byte more, less, or another one, by two neighbours changed, by a piece taken away, or by one laid twice.
func near(s string) []string {
	var l []string
	for i := range len(s) + 1 {
		for _, c := range "\x00\n +-/0123456789:@AERX_`abcdefghiklnoprstuvwx\x7f" {
			l = append(l, s[:i]+string(c)+s[i:])
			if i < len(s) {
				l = append(l, s[:i]+string(c)+s[i+1:])
			}
		}
		if i+1 < len(s) {
			l = append(l, s[:i]+s[i+1:i+2]+s[i:i+1]+s[i+2:])
		}
		for j := i + 1; j <= len(s); j++ {
			l = append(l, s[:i]+s[j:], s[:j]+s[i:])
		}
	}
	return l
}

func TestTextsNearOnes(t *testing.T) {
	right, wrong := 0, 0
	for _, s := range append(sixteenNames()[1:], "rune 32", "rune 65", "rune 126", "rune 160", "rune 2048", "rune 55295", "rune 57344", "rune 111411", "rune 1114111") {
		checkRead(t, s)
		for _, changed := range near(s) {
			checkRead(t, changed)
			if _, err := modelRead(changed); err == api.OK {
				right++
			} else {
				wrong++
			}
		}
	}
	if right < 500 || wrong < 10000 {
		t.Errorf("%d right texts, %d wrong ones", right, wrong)
	}
}

// P8.3.

// What a key is told by has that key, if it is one character; but those told by more bytes are no character.
func TestKeysAndBytesThereAndBack(t *testing.T) {
	more := 0
	for kind := range 16 {
		for _, c := range someNumbers() {
			k := api.Key{Kind: kind, C: c}
			b, err := Bytes(k)
			if err != api.OK {
				continue
			}
			l := []rune(string(b))
			if len(l) != 1 {
				more++
				continue
			}
			if got := Of(int(l[0])); got != k {
				t.Errorf("%v is told by %v, the key of which is %v", k, b, got)
			}
		}
	}
	if more != 3 {
		t.Errorf("%d keys are told by more than a character, want Delete, PasteStart and PasteEnd", more)
	}
}

// The key of each number is one that has bytes and a text, and is read as itself.
func TestNumbersAndKeysThereAndBack(t *testing.T) {
	for _, c := range someNumbers() {
		k := Of(c)
		b, err := Bytes(k)
		if err != api.OK {
			t.Errorf("Bytes of the key of %d: %d", c, err)
		}
		if k.Kind == api.Rune && string(b) != string(rune(c)) {
			t.Errorf("the Rune of %d is told by %v", c, b)
		}
		text, err := Text(k)
		if back, readErr := Read(text); back != k || err != api.OK || readErr != api.OK {
			t.Errorf("the key of %d: %q, %d, read as %v, %d", c, text, err, back, readErr)
		}
	}
}

func TestTextsAreApart(t *testing.T) {
	seen := map[string]api.Key{}
	for kind := range 16 {
		for _, c := range someNumbers() {
			k := api.Key{Kind: kind, C: c}
			text, err := Text(k)
			if err != api.OK {
				continue
			}
			if other, ok := seen[text]; ok {
				t.Errorf("%v and %v have the text %q", other, k, text)
			}
			seen[text] = k
		}
	}
}

// What a call answers hangs on its arguments alone, whoever calls beside.
func TestManyGoroutines(t *testing.T) {
	var all sync.WaitGroup
	for i := range 16 {
		all.Go(func() {
			for _, x := range numbers(1000) {
				c := int(x>>i) % 3000
				checkOf(t, c)
				checkKey(t, api.Key{Kind: int(x>>40) % 18, C: 0})
				checkKey(t, Of(c))
				checkRead(t, fmt.Sprintf("rune %d", c))
				if names := Names(); !slices.Equal(names, sixteenNames()) {
					t.Errorf("Names: %q", names)
				} else {
					names[i] = "changed"
				}
			}
		})
	}
	all.Wait()
}

func FuzzAgainstModel(f *testing.F) {
	for _, s := range []string{"", "rune 65", "enter", "rune 065", "pastestart", "rune 1114111", "ignored 0"} {
		f.Add(0, 65, s)
		f.Add(3, 0, s)
		f.Add(-1, 1114112, s)
	}
	f.Fuzz(func(t *testing.T, kind, c int, s string) {
		checkOf(t, c)
		checkOf(t, kind)
		for _, k := range []api.Key{{Kind: kind, C: c}, {Kind: kind}, {C: c}, Of(c), {Kind: kind & 15, C: c}, {Kind: kind & 15}} {
			checkKey(t, k)
		}
		checkRead(t, s)
		checkRead(t, "rune "+s)
		if len(s) >= 8 {
			checkOf(t, int(binary.LittleEndian.Uint64([]byte(s))))
		}
		text, _ := Text(Of(c))
		for _, changed := range near(text) {
			checkRead(t, changed)
		}
	})
}
