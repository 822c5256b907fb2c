package attrs

import (
	"encoding/binary"
	"fmt"
	"math"
	"regexp"
	"slices"
	"strings"
	"sync"
	"testing"

	"whisperer/api"
)

// The model: the chapter's text by hand. A text of flags is looked up among all 128 of named ones; what remains is a form of digits.

func sevenNames() []string {
	return strings.Fields("echo canon signals extend flow crtonl post")
}

// modelNamed is the text of flags below 128, empty of none.
func modelNamed(flags uint32) string {
	text := ""
	for i, name := range sevenNames() {
		if flags>>i%2 == 1 {
			text += "+" + name
		}
	}
	return strings.TrimPrefix(text, "+")
}

func modelFlags(flags uint32) string {
	named, others := modelNamed(flags%128), fmt.Sprintf("x%x", flags/128*128)
	switch {
	case flags == 0:
		return "-"
	case flags < 128:
		return named
	case flags%128 == 0:
		return others
	}
	return named + "+" + others
}

func modelText(a api.Attrs) string {
	return fmt.Sprintf("%s %d %d", modelFlags(a.Flags), a.Min, a.Time)
}

// Forms of a whole text, and of others than named flags.
var (
	form   = regexp.MustCompile(`\A(-|[a-z]+(?:\+[a-z]+)*|(?:[a-z]+\+)*x[1-9a-f][0-9a-f]{0,7}) (0|[1-9][0-9]?|1[0-9][0-9]|2[0-4][0-9]|25[0-5]) (0|[1-9][0-9]?|1[0-9][0-9]|2[0-4][0-9]|25[0-5])\z`)
	others = regexp.MustCompile(`\A(?:(.+)\+)?x([1-9a-f][0-9a-f]*)\z`)
)

// modelReadFlags answers flags, and whether the text is theirs.
func modelReadFlags(s string) (uint32, bool) {
	if s == "-" {
		return 0, true
	}
	high := uint32(0)
	if m := others.FindStringSubmatch(s); m != nil {
		for _, digit := range m[2] {
			high = high*16 + uint32(strings.IndexRune("0123456789abcdef", digit))
		}
		if high%128 != 0 {
			return 0, false
		}
		if m[1] == "" {
			return high, s[0] == 'x'
		}
		s = m[1]
	}
	for low := range uint32(128) {
		if low != 0 && modelNamed(low) == s {
			return low + high, true
		}
	}
	return 0, false
}

func modelByte(s string) uint8 {
	n := 0
	for _, digit := range s {
		n = n*10 + int(digit-'0')
	}
	return uint8(n)
}

func modelRead(s string) (api.Attrs, api.Errno) {
	m := form.FindStringSubmatch(s)
	if m == nil {
		return api.Attrs{}, api.ErrForm
	}
	flags, ok := modelReadFlags(m[1])
	if !ok {
		return api.Attrs{}, api.ErrForm
	}
	return api.Attrs{Flags: flags, Min: modelByte(m[2]), Time: modelByte(m[3])}, api.OK
}

// numbers are n of 64 bits, of all sorts, by a rule.
func numbers(n int) []uint64 {
	l := make([]uint64, n)
	x := uint64(1)
	for i := range l {
		x = x*6364136223846793005 + 1442695040888963407
		l[i] = x ^ x>>29
	}
	return l
}

// someFlags are none, each bit alone, each but one, all two together, all of the named ones, some with others, and many by a rule.
func someFlags() []uint32 {
	l := []uint32{0, math.MaxUint32, math.MaxUint32 - 127, math.MaxUint32 - 64, 128 + 127, 0x10000000, 0xabcdef80, 0x12345680, 0x90000000, 0xa0000000}
	for i := range 32 {
		l = append(l, ^(uint32(1) << i))
		for j := range i + 1 {
			l = append(l, 1<<i|1<<j)
		}
	}
	for flags := range uint32(128) {
		l = append(l, flags, flags|128, flags|1<<31, flags|math.MaxUint32-127, flags|0x00300a00)
	}
	for _, x := range numbers(2000) {
		l = append(l, uint32(x), uint32(x)>>(x>>59))
	}
	slices.Sort(l)
	return slices.Compact(l)
}

// someBytes are the edges, and where the number of decimals changes.
func someBytes() []uint8 {
	return []uint8{0, 1, 2, 9, 10, 11, 99, 100, 101, 127, 128, 199, 200, 249, 250, 254, 255}
}

// someAttrs are of all these flags, each with another Min and Time.
func someAttrs() []api.Attrs {
	var l []api.Attrs
	b := someBytes()
	for i, flags := range someFlags() {
		l = append(l, api.Attrs{Flags: flags, Min: b[i%17], Time: b[i/17%17]})
	}
	return l
}

func checkText(t *testing.T, a api.Attrs) {
	t.Helper()
	want := modelText(a)
	if got := Text(a); got != want {
		t.Errorf("Text(%v): %q, want %q", a, got, want)
	}
	if got, err := Read(want); got != a || err != api.OK {
		t.Errorf("Read(%q): %v, %d, want %v", want, got, err, a)
	}
}

func checkRead(t *testing.T, s string) {
	t.Helper()
	want, wantErr := modelRead(s)
	got, err := Read(s)
	if got != want || err != wantErr {
		t.Errorf("Read(%.200q): %v, %d, want %v, %d", s, got, err, want, wantErr)
	}
	if err == api.OK && Text(got) != s {
		t.Errorf("Read(%q): %v, of the text %q", s, got, Text(got))
	}
}

func checkNone(t *testing.T, s string) {
	t.Helper()
	if a, err := Read(s); a != (api.Attrs{}) || err != api.ErrForm {
		t.Errorf("Read(%.200q): %v, %d, want none, %d", s, a, err, api.ErrForm)
	}
}

// P6.1.

func TestRawOfNamedAttributes(t *testing.T) {
	for _, x := range []struct{ a, want api.Attrs }{
		{api.Attrs{}, api.Attrs{Min: 1}},
		{api.Attrs{Flags: 127, Min: 255, Time: 255}, api.Attrs{Flags: 64, Min: 1}},
		{api.Attrs{Flags: 63, Min: 0, Time: 1}, api.Attrs{Min: 1}},
		{api.Attrs{Flags: math.MaxUint32, Min: 7, Time: 3}, api.Attrs{Flags: 0xffffffc0, Min: 1}},
		{api.Attrs{Flags: api.Echo}, api.Attrs{Min: 1}},
		{api.Attrs{Flags: api.Canon}, api.Attrs{Min: 1}},
		{api.Attrs{Flags: api.Signals}, api.Attrs{Min: 1}},
		{api.Attrs{Flags: api.Extend}, api.Attrs{Min: 1}},
		{api.Attrs{Flags: api.Flow}, api.Attrs{Min: 1}},
		{api.Attrs{Flags: api.CrToNl}, api.Attrs{Min: 1}},
		{api.Attrs{Flags: api.Post}, api.Attrs{Flags: 64, Min: 1}},
		{api.Attrs{Flags: 1 << 31}, api.Attrs{Flags: 1 << 31, Min: 1}},
		{api.Attrs{Flags: 64, Min: 1}, api.Attrs{Flags: 64, Min: 1}},
	} {
		if got := Raw(x.a); got != x.want {
			t.Errorf("Raw(%v): %v, want %v", x.a, got, x.want)
		}
	}
}

func TestRawOfAllSorts(t *testing.T) {
	for _, a := range someAttrs() {
		want := api.Attrs{Flags: a.Flags / 64 * 64, Min: 1}
		if got := Raw(a); got != want {
			t.Errorf("Raw(%v): %v, want %v", a, got, want)
		}
	}
	for _, least := range someBytes() {
		for _, time := range someBytes() {
			if got := Raw(api.Attrs{Flags: 65, Min: least, Time: time}); got != (api.Attrs{Flags: 64, Min: 1}) {
				t.Errorf("Raw with %d %d: %v", least, time, got)
			}
		}
	}
}

func TestHasNamedFlags(t *testing.T) {
	for _, x := range []struct {
		flags, flag uint32
		want        bool
	}{
		{0, 0, true},
		{5, 0, true},
		{math.MaxUint32, 0, true},
		{0, 1, false},
		{1, 1, true},
		{1, 2, false},
		{5, 4, true},
		{5, 5, true},
		{5, 7, false},
		{5, 2, false},
		{5, 6, false},
		{127, 127, true},
		{126, 127, false},
		{1 << 31, 1 << 31, true},
		{1<<31 - 1, 1 << 31, false},
		{1 << 31, 1<<31 | 1, false},
		{math.MaxUint32, math.MaxUint32, true},
		{math.MaxUint32 - 1, math.MaxUint32, false},
		{0, math.MaxUint32, false},
	} {
		if got := Has(api.Attrs{Flags: x.flags}, x.flag); got != x.want {
			t.Errorf("Has(%d, %d): %v", x.flags, x.flag, got)
		}
	}
}

func TestWithNamedFlags(t *testing.T) {
	for _, x := range []struct{ flags, flag, on, off uint32 }{
		{0, 0, 0, 0},
		{5, 0, 5, 5},
		{5, 1, 5, 4},
		{5, 2, 7, 5},
		{5, 6, 7, 1},
		{5, 5, 5, 0},
		{5, 10, 15, 5},
		{127, 127, 127, 0},
		{0, 1 << 31, 1 << 31, 0},
		{1<<31 | 1, 1 << 31, 1<<31 | 1, 1},
		{0, math.MaxUint32, math.MaxUint32, 0},
		{math.MaxUint32, math.MaxUint32, math.MaxUint32, 0},
		{math.MaxUint32, 0, math.MaxUint32, math.MaxUint32},
		{math.MaxUint32, 3, math.MaxUint32, math.MaxUint32 - 3},
	} {
		a := api.Attrs{Flags: x.flags, Min: 7, Time: 255}
		if got := With(a, x.flag, true); got != (api.Attrs{Flags: x.on, Min: 7, Time: 255}) {
			t.Errorf("With(%d, %d, true): %v, want %d", x.flags, x.flag, got, x.on)
		}
		if got := With(a, x.flag, false); got != (api.Attrs{Flags: x.off, Min: 7, Time: 255}) {
			t.Errorf("With(%d, %d, false): %v, want %d", x.flags, x.flag, got, x.off)
		}
	}
}

// modelBits asks of each bit alone: must it be set in all of flag, and what becomes of it.
func modelBits(flags, flag uint32) (has bool, with, without uint32) {
	has = true
	for i := range 32 {
		set, asked := flags>>i%2, flag>>i%2
		if asked == 1 && set == 0 {
			has = false
		}
		with |= max(set, asked) << i
		without |= set * (1 - asked) << i
	}
	return has, with, without
}

func checkBits(t *testing.T, a api.Attrs, flag uint32) {
	t.Helper()
	has, with, without := modelBits(a.Flags, flag)
	if got := Has(a, flag); got != has {
		t.Errorf("Has(%v, %d): %v", a, flag, got)
	}
	if got := With(a, flag, true); got != (api.Attrs{Flags: with, Min: a.Min, Time: a.Time}) {
		t.Errorf("With(%v, %d, true): %v, want %d", a, flag, got, with)
	}
	if got := With(a, flag, false); got != (api.Attrs{Flags: without, Min: a.Min, Time: a.Time}) {
		t.Errorf("With(%v, %d, false): %v, want %d", a, flag, got, without)
	}
	if !Has(With(a, flag, true), flag) || flag != 0 && Has(With(a, flag, false), flag) {
		t.Errorf("With(%v, %d, ..): it isn't, or is still there", a, flag)
	}
}

func TestHasAndWithOfAllSorts(t *testing.T) {
	for _, a := range someAttrs() {
		for i := range 32 {
			checkBits(t, a, 1<<i)
		}
		for _, flag := range []uint32{0, 3, 63, 127, 128, 192, a.Flags, ^a.Flags, math.MaxUint32} {
			checkBits(t, a, flag)
		}
	}
	for low := range uint32(128) {
		for flag := range uint32(128) {
			checkBits(t, api.Attrs{Flags: low, Min: 1, Time: 2}, flag)
		}
	}
}

func TestNames(t *testing.T) {
	want := []string{"echo", "canon", "signals", "extend", "flow", "crtonl", "post"}
	if got := Names(); !slices.Equal(got, want) {
		t.Errorf("Names: %q", got)
	}
	for i, name := range Names() {
		if got := Text(api.Attrs{Flags: 1 << i}); got != name+" 0 0" {
			t.Errorf("the flag %d: %q, want the name %q", 1<<i, got, name)
		}
	}
}

// Who changes a list that was told changes nothing else: neither another list, nor texts.
func TestNamesBehindAChangeOfAList(t *testing.T) {
	first, second := Names(), Names()
	for i := range first {
		first[i] = "changed"
	}
	_ = append(first[:0], "x", "y")
	if !slices.Equal(second, sevenNames()) || !slices.Equal(Names(), sevenNames()) {
		t.Errorf("Names behind a change: %q, %q", second, Names())
	}
	checkText(t, api.Attrs{Flags: 127})
	checkNone(t, "changed 0 0")
	for _, name := range first[:cap(first)][len(first):] {
		if name != "" {
			t.Errorf("%q lies behind the list", name)
		}
	}
}

// P6.2.

func TestTextsByHand(t *testing.T) {
	for _, x := range []struct {
		a    api.Attrs
		text string
	}{
		{api.Attrs{}, "- 0 0"},
		{api.Attrs{Flags: 67, Min: 4}, "echo+canon+post 4 0"},
		{api.Attrs{Flags: 1}, "echo 0 0"},
		{api.Attrs{Flags: 2}, "canon 0 0"},
		{api.Attrs{Flags: 4}, "signals 0 0"},
		{api.Attrs{Flags: 8}, "extend 0 0"},
		{api.Attrs{Flags: 16}, "flow 0 0"},
		{api.Attrs{Flags: 32}, "crtonl 0 0"},
		{api.Attrs{Flags: 64}, "post 0 0"},
		{api.Attrs{Flags: 127, Min: 1, Time: 1}, "echo+canon+signals+extend+flow+crtonl+post 1 1"},
		{api.Attrs{Flags: 128}, "x80 0 0"},
		{api.Attrs{Flags: 129}, "echo+x80 0 0"},
		{api.Attrs{Flags: 192}, "post+x80 0 0"},
		{api.Attrs{Flags: 256, Min: 255}, "x100 255 0"},
		{api.Attrs{Flags: 0xabcdef00, Time: 255}, "xabcdef00 0 255"},
		{api.Attrs{Flags: 1 << 31, Min: 10, Time: 100}, "x80000000 10 100"},
		{api.Attrs{Flags: 1<<31 | 1}, "echo+x80000000 0 0"},
		{api.Attrs{Flags: math.MaxUint32 - 127}, "xffffff80 0 0"},
		{api.Attrs{Flags: math.MaxUint32, Min: 255, Time: 255}, "echo+canon+signals+extend+flow+crtonl+post+xffffff80 255 255"},
	} {
		if got := Text(x.a); got != x.text {
			t.Errorf("Text(%v): %q, want %q", x.a, got, x.text)
		}
		if got, err := Read(x.text); got != x.a || err != api.OK {
			t.Errorf("Read(%q): %v, %d, want %v", x.text, got, err, x.a)
		}
	}
}

func TestTextAndReadOfAllSorts(t *testing.T) {
	for _, a := range someAttrs() {
		checkText(t, a)
	}
}

func TestEachMinAndTime(t *testing.T) {
	for i := range 1 << 16 {
		checkText(t, api.Attrs{Flags: 5, Min: uint8(i >> 8), Time: uint8(i)})
	}
}

func TestNoTexts(t *testing.T) {
	for _, s := range []string{
		// None at all, or parts that are missing.
		"", " ", "  ", "-", "echo", "- ", "- 0", "- 0 ", "echo 1", "0 0", " 0 0", "1 0", "0", "-0 0", "- 00", "echo0 0",
		// Names in another order, twice, unknown, or not quite.
		"canon+echo 0 0", "post+echo 0 0", "flow+extend 0 0", "echo+canon+post+crtonl 0 0", "post+flow+echo 0 0",
		"echo+echo 0 0", "echo+canon+echo 0 0", "post+post 0 0", "post+post+x80 0 0",
		"other 0 0", "echo+other 0 0", "other+echo 0 0", "Echo 0 0", "ECHO 0 0", "ech 0 0", "echoo 0 0", "cho 0 0", "echocanon 0 0", "echo,canon 0 0", "echo|canon 0 0", "echo canon 0 0", "1 0 0", "67 4 0", "e 0 0",
		// A + where none may be.
		"+echo 0 0", "echo+ 0 0", "+ 0 0", "++ 0 0", "echo++canon 0 0", "+x80 0 0", "x80+ 0 0", "echo++x80 0 0", "echo+canon+ 0 0", "echo +canon 0 0", "echo+ canon 0 0", "-+ 0 0", "+- 0 0",
		// A number of flags that isn't one.
		"x 0 0", "x0 0 0", "x00 0 0", "x080 0 0", "x0080 0 0", "echo+x 0 0", "echo+x0 0 0", "echo+x080 0 0", "echo+80 0 0", "80 0 0", "0x80 0 0", "x0x80 0 0", "X80 0 0", "echo+X80 0 0",
		"xFF80 0 0", "xfF80 0 0", "xA00 0 0", "xg0 0 0", "x8g 0 0", "x-80 0 0", "x+80 0 0", "x8_0 0 0", "x1_00 0 0", "x80. 0 0", "xx80 0 0", "x80h 0 0", "x\u0668\u0660 0 0",
		"x1 0 0", "x2 0 0", "x4 0 0", "x8 0 0", "x10 0 0", "x20 0 0", "x40 0 0", "x7f 0 0", "x81 0 0", "xc0 0 0", "xff 0 0", "xffffffff 0 0", "echo+x81 0 0", "echo+x82 0 0", "echo+x1 0 0", "post+xc0 0 0", "canon+x1 0 0",
		"x100000000 0 0", "x100000080 0 0", "x1ffffff80 0 0", "xffffffff80 0 0", "x10000000000000080 0 0", "x1000000000000000000000080 0 0", "echo+x100000000 0 0",
		"x80+post 0 0", "x80+echo 0 0", "x80+x80 0 0", "x80+x100 0 0", "x100+x80 0 0", "echo+x80+x100 0 0", "echo+x80+canon 0 0",
		// A - beside something.
		"echo+- 0 0", "-+echo 0 0", "-echo 0 0", "echo- 0 0", "-+x80 0 0", "x80+- 0 0", "-x80 0 0", "-- 0 0", "-+- 0 0", "- - 0 0", "echo - 0 0",
		// Numbers that may not be.
		"- 256 0", "- 0 256", "- 257 0", "- 0 300", "- 1000 0", "- 0 65536", "- 65537 1", "- 4294967296 0", "- 0 4294967297", "- 18446744073709551616 0", "- 0 18446744073709551617", "- 99999999999999999999999 0",
		"- 00 0", "- 0 00", "- 01 0", "- 0 01", "- 0255 0", "- 0 010", "- +1 0", "- 0 +1", "- -1 0", "- 0 -1", "- -0 0", "- 0 -0", "- - 0", "- 0 -", "- + 0",
		"- a 0", "- 0 a", "- 1a 0", "- 0 1a", "- x1 0", "- 0x1 0", "- 0b1 0", "- 1_0 0", "- 0 1_0", "- 1e1 0", "- 1.0 0", "- 1, 0", "- \u0661 0", "- 0 \uff11", "- ff 0", "- 0 \u00b2",
		// A blank too many, too few, or another byte for one; something behind.
		" - 0 0", "-  0 0", "- 0  0", "- 0 0 ", "  - 0 0", "-   0 0", "echo  0 0", " echo 0 0", "echo 0 0 ", "echo 0  0", "echo 00", "echo 10 ", "- 0 0 0", "echo 1 2 3", "- 0 0 -", "- 0 0 echo",
		"-\t0 0", "- 0\t0", "- 0 0\n", "- 0 0\r\n", "\n- 0 0", "-\n0\n0", "-\u00a00 0", "-\u20030\u20030", "- 0 0\x00", "\x00- 0 0", "- 0\x000", "-_0_0", "- 0,0", "- 0 0.", "- 0 0;", "\ufeff- 0 0", "- 0 0- 0 0", "- 0 0\n- 0 0", "e cho 0 0", "x 80 0 0", "- 1 0 0",
		// Any bytes.
		"\xff", "\xff 0 0", "- \xff 0", "- 0 \xff", "- 0 0\xff", "echo\xff 0 0", "ech\u00f6 0 0", "\u2212 0 0", "x\xff 0 0", "echo\x00 0 0", "\x00", "\x00 \x00 \x00", "\uff58\uff18\uff10 0 0",
	} {
		checkNone(t, s)
		if _, err := modelRead(s); err != api.ErrForm {
			t.Errorf("the model reads %q", s)
		}
	}
}

func TestLongTexts(t *testing.T) {
	const many = 1 << 20
	for _, part := range []string{"echo+", "+", " ", "-", "x", "0", "f", "8", "x80+", "\xff", "canon ", "echo+canon+signals+extend+flow+crtonl+post+"} {
		row := strings.Repeat(part, many/len(part))
		for _, s := range []string{row, row + "echo 0 0", "echo " + row + " 0", "echo 0 " + row, "- 0 0" + row, "x" + row + " 0 0", row + "- 0 0", "echo+x8" + row + " 0 0", row + " 0 0"} {
			checkNone(t, s)
		}
	}
}

// near are all texts that are made of s by one byte more, less, or another one, by two neighbours changed, by a piece taken away, or by one laid twice.
func near(s string) []string {
	var l []string
	for i := range len(s) + 1 {
		for _, c := range "\x00 +-/0123456789:@AFX`acefghmnoprstxyz\x7f" {
			l = append(l, s[:i]+string(c)+s[i:])
			if i < len(s) {
				l = append(l, s[:i]+string(c)+s[i+1:])
			}
		}
		if i+1 < len(s) {
			l = append(l, s[:i]+s[i+1:i+2]+s[i:i+1]+s[i+2:])
		}
		for j := i + 1; j <= len(s); j++ {
			l = append(l, s[:i]+s[j:], s[:j]+s[i:])
		}
	}
	return l
}

func TestTextsNearOnes(t *testing.T) {
	right, wrong := 0, 0
	for _, s := range []string{"- 0 0", "- 1 10", "echo 0 0", "post 255 254", "canon+flow 10 25", "x80 0 0", "x100 1 200", "x80000000 0 0", "xffffff80 99 100", "echo+x80 0 0", "crtonl+post+xabc00 19 91", "signals+extend+flow 0 1", "echo+canon+signals+extend+flow+crtonl+post+xffffff80 255 255"} {
		checkRead(t, s)
		for _, changed := range near(s) {
			checkRead(t, changed)
			if _, err := modelRead(changed); err == api.OK {
				right++
			} else {
				wrong++
			}
		}
	}
	if right < 100 || wrong < 10000 {
		t.Errorf("%d right texts, %d wrong ones", right, wrong)
	}
}

// All rows of up to 3 parts, each with a + between, or with none.
func TestRowsOfParts(t *testing.T) {
	parts := append(sevenNames(), "", "-", "x", "x0", "x80", "x100", "xffffff80", "x40", "x080", "X80", "x8", "other", "+")
	for _, a := range parts {
		checkRead(t, a+" 0 0")
		for _, b := range parts {
			checkRead(t, a+"+"+b+" 0 0")
			checkRead(t, a+b+" 0 0")
			for _, c := range parts {
				checkRead(t, a+"+"+b+"+"+c+" 3 4")
			}
		}
	}
}

// All numbers of up to 4 digits, zeros ahead among them, at either place.
func TestAllNumbers(t *testing.T) {
	bound := 1
	for digits := range 5 {
		for n := range bound {
			text := ""
			if digits > 0 {
				text = fmt.Sprintf("%0*d", digits, n)
			}
			checkRead(t, "flow "+text+" 7")
			checkRead(t, "flow 7 "+text)
		}
		bound *= 10
	}
}

// All numbers of flags of up to 3 digits, in small and capital letters.
func TestAllNumbersOfFlags(t *testing.T) {
	bound := 1
	for digits := range 4 {
		for n := range bound {
			text := ""
			if digits > 0 {
				text = fmt.Sprintf("%0*x", digits, n)
			}
			for _, s := range []string{"x" + text, "x" + strings.ToUpper(text), "canon+x" + text, "canon+" + text, text} {
				checkRead(t, s+" 1 0")
			}
		}
		bound *= 16
	}
}

// P6.3.

func TestRawIsItsOwnRaw(t *testing.T) {
	for _, a := range someAttrs() {
		raw := Raw(a)
		if again := Raw(raw); again != raw {
			t.Errorf("Raw of Raw(%v): %v, want %v", a, again, raw)
		}
		if Has(raw, 1) || Has(raw, 2) || Has(raw, 4) || Has(raw, 8) || Has(raw, 16) || Has(raw, 32) || Has(raw, 64) != Has(a, 64) {
			t.Errorf("Raw(%v): %v", a, raw)
		}
		checkText(t, raw)
	}
}

func TestEachTextIsOnesAlone(t *testing.T) {
	texts := map[string]api.Attrs{}
	for _, flags := range someFlags() {
		for _, least := range []uint8{0, 1, 10, 255} {
			for _, time := range []uint8{0, 1, 10, 255} {
				a := api.Attrs{Flags: flags, Min: least, Time: time}
				s := Text(a)
				if other, ok := texts[s]; ok {
					t.Errorf("%q is the text of %v and of %v", s, other, a)
				}
				texts[s] = a
			}
		}
	}
	for s, a := range texts {
		if got, err := Read(s); got != a || err != api.OK {
			t.Errorf("Read(%q): %v, %d, want %v", s, got, err, a)
		}
	}
}

// What is answered hangs on nothing that was asked ahead, nor on who asks beside.
func TestManyGoroutines(t *testing.T) {
	all := someAttrs()
	var wait sync.WaitGroup
	for g := range 8 {
		wait.Go(func() {
			for i := range all {
				a := all[(i+g*100)%len(all)]
				s := Text(a)
				got, err := Read(s)
				if s != modelText(a) || got != a || err != api.OK {
					t.Errorf("%v: %q, %v, %d", a, s, got, err)
				}
				if _, err := Read(s + " "); err != api.ErrForm {
					t.Errorf("Read(%q): %d", s+" ", err)
				}
				names := Names()
				if !slices.Equal(names, sevenNames()) {
					t.Errorf("Names: %q", names)
				}
				clear(names)
			}
		})
	}
	wait.Wait()
}

// The bytes are a text; the first ones of them are attributes and a flag, too.
func FuzzAgainstModel(f *testing.F) {
	for _, a := range someAttrs()[:200] {
		f.Add([]byte(modelText(a)))
	}
	for _, s := range []string{"", "- 0 0", "echo+echo 0 0", "x80 0 0", "x080 0 0", "post+xffffff80 255 255", "echo+ 0 0", "- 256 0", "\xff\xff\xff\xff\xff\xff\x01\x00\x00\x80"} {
		f.Add([]byte(s))
	}
	f.Fuzz(func(t *testing.T, b []byte) {
		checkRead(t, string(b))
		if len(b) < 10 {
			return
		}
		a := api.Attrs{Flags: binary.LittleEndian.Uint32(b), Min: b[4], Time: b[5]}
		checkText(t, a)
		checkBits(t, a, binary.LittleEndian.Uint32(b[6:]))
		if got := Raw(a); got != (api.Attrs{Flags: a.Flags / 64 * 64, Min: 1}) {
			t.Errorf("Raw(%v): %v", a, got)
		}
	})
}
