package escseq

import (
	"regexp"
	"slices"
	"strings"
	"sync"
	"testing"

	"whisperer/api"
)

// The model: the chapter's two forms, of a whole sequence and of a beginning of one, held against each front part of the bytes in turn.

var (
	wholeForm = regexp.MustCompile(`(?s)\A\x1b(?:\[([0-?]*[ -/]*)[@-~]|O[@-~])\z`)
	begunForm = regexp.MustCompile(`(?s)\A\x1b(?:\[([0-?]*[ -/]*)|O)?\z`)
)

// modelFits asks whether b is of the form, with no more parameters and others than there may be.
func modelFits(form *regexp.Regexp, b []byte) bool {
	m := form.FindSubmatch(b)
	return m != nil && len(m[1]) <= 32
}

func modelKind(s string) int {
	switch s[1:] {
	case "[C", "OC":
		return 5
	case "[D", "OD":
		return 4
	case "[H", "OH", "[1~", "[7~":
		return 6
	case "[F", "OF", "[4~", "[8~":
		return 7
	case "[3~":
		return 3
	case "[200~":
		return 13
	case "[201~":
		return 14
	}
	return 15
}

func modelNext(b []byte) (api.Key, int, api.Errno) {
	if len(b) == 0 {
		return api.Key{}, 0, api.ErrNone
	}
	if b[0] != 27 {
		return api.Key{}, 0, api.ErrForm
	}
	for n := 1; n <= len(b); n++ {
		if modelFits(wholeForm, b[:n]) {
			return api.Key{Kind: modelKind(string(b[:n]))}, n, api.OK
		}
		if !modelFits(begunForm, b[:n]) {
			return api.Key{Kind: 15}, n - 1, api.OK
		}
	}
	return api.Key{}, len(b), api.ErrShort
}

// fifteen are the sequences that are keys, in the order of their bytes.
func fifteen() []string {
	return []string{"\x1bOC", "\x1bOD", "\x1bOF", "\x1bOH", "\x1b[1~", "\x1b[200~", "\x1b[201~", "\x1b[3~", "\x1b[4~", "\x1b[7~", "\x1b[8~", "\x1b[C", "\x1b[D", "\x1b[F", "\x1b[H"}
}

// edges are the bytes about which something changes, with their neighbours, and those that sequences are made of.
func edges() []byte {
	return []byte{0, 1, 10, 13, 26, 27, 28, 31, 32, 33, 46, 47, 48, 49, 50, 51, 59, 62, 63, 64, 65, 67, 78, 79, 80, 90, 91, 92, 104, 125, 126, 127, 128, 155, 159, 160, 191, 192, 254, 255}
}

// numbers are n of 64 bits, of all sorts, by a rule.
func numbers(n int) []uint64 {
	l := make([]uint64, n)
	x := uint64(1)
	for i := range l {
		x = x*6364136223846793005 + 1442695040888963407
		l[i] = x ^ x>>29
	}
	return l
}

func check(t *testing.T, b []byte) {
	t.Helper()
	before := slices.Clone(b)
	wantKey, wantN, wantErr := modelNext(b)
	key, n, err := Next(b)
	if key != wantKey || n != wantN || err != wantErr {
		t.Errorf("Next(%.100q): %v, %d, %d, want %v, %d, %d", b, key, n, err, wantKey, wantN, wantErr)
	}
	if got := Begins(b); got != (wantErr == api.ErrShort) {
		t.Errorf("Begins(%.100q): %v", b, got)
	}
	if !slices.Equal(b, before) {
		t.Errorf("%.100q was changed to %.100q", before, b)
	}
}

// checkAnswer holds Next and Begins against an answer by hand, and the model, too.
func checkAnswer(t *testing.T, s string, kind, n int, want api.Errno) {
	t.Helper()
	check(t, []byte(s))
	key, got, err := Next([]byte(s))
	if key != (api.Key{Kind: kind}) || got != n || err != want {
		t.Errorf("Next(%.100q): %v, %d, %d, want kind %d, %d, %d", s, key, got, err, kind, n, want)
	}
	if Begins([]byte(s)) != (want == api.ErrShort) {
		t.Errorf("Begins(%.100q): %v", s, !(want == api.ErrShort))
	}
}

func checkKey(t *testing.T, s string, kind, n int) {
	t.Helper()
	checkAnswer(t, s, kind, n, api.OK)
}

func checkShort(t *testing.T, s string) {
	t.Helper()
	checkAnswer(t, s, 0, len(s), api.ErrShort)
}

// P9.1.

func TestNothing(t *testing.T) {
	checkAnswer(t, "", 0, 0, api.ErrNone)
	for _, b := range [][]byte{nil, {}, []byte("\x1b[C")[:0], []byte("\x1b")[1:]} {
		if key, n, err := Next(b); key != (api.Key{}) || n != 0 || err != api.ErrNone || Begins(b) {
			t.Errorf("Next of no bytes: %v, %d, %d", key, n, err)
		}
	}
}

// Bytes that don't begin with ESC: each first byte, with a sequence behind it, or without.
func TestNoEscape(t *testing.T) {
	for c := range 256 {
		if c == 27 {
			continue
		}
		for _, tail := range []string{"", "\x1b", "\x1b[C", "[C", "OC", "[3~", "[200~", "[", "[1", "\x1b[1"} {
			checkAnswer(t, string([]byte{byte(c)})+tail, 0, 0, api.ErrForm)
		}
	}
	checkAnswer(t, "\u009bC", 0, 0, api.ErrForm)
	checkAnswer(t, "\u00a0\x1b[C", 0, 0, api.ErrForm)
}

// ESC alone may go on; with each byte behind it that is neither [ nor O it breaks off, and doesn't have that byte.
func TestEscapeAndAByte(t *testing.T) {
	checkShort(t, "\x1b")
	for c := range 256 {
		s := "\x1b" + string([]byte{byte(c)})
		if c == '[' || c == 'O' {
			checkShort(t, s)
			continue
		}
		for _, tail := range []string{"", "C", "[C", "\x1b[C", "~", "\x00"} {
			checkKey(t, s+tail, api.Ignored, 1)
		}
	}
}

func TestKeysByHand(t *testing.T) {
	for _, x := range []struct {
		s    string
		kind int
	}{
		{"\x1b[C", api.Right},
		{"\x1bOC", api.Right},
		{"\x1b[D", api.Left},
		{"\x1bOD", api.Left},
		{"\x1b[H", api.Home},
		{"\x1bOH", api.Home},
		{"\x1b[1~", api.Home},
		{"\x1b[7~", api.Home},
		{"\x1b[F", api.Last},
		{"\x1bOF", api.Last},
		{"\x1b[4~", api.Last},
		{"\x1b[8~", api.Last},
		{"\x1b[3~", api.Delete},
		{"\x1b[200~", api.PasteStart},
		{"\x1b[201~", api.PasteEnd},
	} {
		checkKey(t, x.s, x.kind, len(x.s))
		for cut := 1; cut < len(x.s); cut++ {
			checkShort(t, x.s[:cut])
		}
		for _, tail := range []string{"~", "C", "[", "O", "\x1b", "\x1b[C", "0", " ", "\x00", "\xff", "\u00e4", x.s, strings.Repeat("1", 100)} {
			checkKey(t, x.s+tail, x.kind, len(x.s))
		}
		// Cut anywhere, and with a byte behind that may not stand there: it hasn't that one.
		for cut := 1; cut < len(x.s); cut++ {
			for _, tail := range []string{"\x00", "\n", "\x1b", "\x1f", "\x7f", "\x80", "\xff", "\x1b[C", "\n~", "\xc3\xa4"} {
				checkKey(t, x.s[:cut]+tail, api.Ignored, cut)
			}
		}
	}
}

// Sequences that end and are no keys, many of them near one.
func TestWholeOnesThatAreNoKeys(t *testing.T) {
	for _, s := range []string{
		// Other ends, and a key's end in the other letters.
		"[@", "[A", "[B", "[E", "[G", "[I", "[Z", "[[", "[O", "[]", "[a", "[c", "[d", "[f", "[h", "[~", "[}", "[`", "[^", "O@", "OA", "OB", "OE", "OG", "OI", "OP", "OS", "O[", "OO", "Oc", "Od", "Oh", "Of", "O~", "O}",
		// Numbers that no key has, or written otherwise.
		"[0~", "[2~", "[5~", "[6~", "[9~", "[10~", "[11~", "[33~", "[03~", "[30~", "[3;~", "[;3~", "[3;5~", "[01~", "[1;1~", "[77~", "[07~", "[20~", "[200;~", "[202~", "[199~", "[2000~", "[0200~", "[2001~", "[0201~", "[201;1~", "[?200~", "[200;201~", "[:~", "[<~", "[=~", "[>~", "[?~",
		// A key's parameters with another end; a key's end with parameters.
		"[3C", "[3^", "[3$~", "[1C", "[0C", "[1D", "[1H", "[1F", "[1;5C", "[;C", "[?C", "[200C", "[201h", "[7}", "[4@", "[8z", "[1;2H", "[0D", "[?25h", "[?2004h", "[?2004l", "[K", "[2D", "[31m", "[m", "[>0c",
		// Others ahead of the end.
		"[ C", "[!D", "[/H", "[ ~", "[3 ~", "[200 ~", "[3/~", "[1  ~", "[!p", "[0 q", "[  !!//~", "[1;2 !@",
	} {
		if last := s[len(s)-1]; last < 64 || last > 126 {
			t.Fatalf("%q has no end", s)
		}
		checkKey(t, "\x1b"+s, api.Ignored, len(s)+1)
		checkKey(t, "\x1b"+s+"~", api.Ignored, len(s)+1)
		checkKey(t, "\x1b"+s+"\x1b[C", api.Ignored, len(s)+1)
		for cut := range s {
			checkShort(t, "\x1b"+s[:cut])
		}
	}
}

// The first and the last byte that may be a parameter, another one, or an end, and their neighbours, at each place behind [.
func TestEdgesOfWhatMayStandThere(t *testing.T) {
	for _, x := range []struct {
		c                                   byte
		behindNone, behindParam, behindMore string // begun, ends, breaks: behind [, behind parameters, behind others
	}{
		{31, "breaks", "breaks", "breaks"},
		{32, "begun", "begun", "begun"},
		{47, "begun", "begun", "begun"},
		{48, "begun", "begun", "breaks"},
		{63, "begun", "begun", "breaks"},
		{64, "ends", "ends", "ends"},
		{126, "ends", "ends", "ends"},
		{127, "breaks", "breaks", "breaks"},
		{0, "breaks", "breaks", "breaks"},
		{27, "breaks", "breaks", "breaks"},
		{91, "ends", "ends", "ends"},
		{79, "ends", "ends", "ends"},
		{128, "breaks", "breaks", "breaks"},
		{160, "breaks", "breaks", "breaks"},
		{192, "breaks", "breaks", "breaks"},
		{255, "breaks", "breaks", "breaks"},
	} {
		for _, ahead := range []struct{ s, want string }{
			{"\x1b[", x.behindNone},
			{"\x1b[5", x.behindParam},
			{"\x1b[0?", x.behindParam},
			{"\x1b[?;:", x.behindParam},
			{"\x1b[ ", x.behindMore},
			{"\x1b[/", x.behindMore},
			{"\x1b[5 ", x.behindMore},
			{"\x1b[0?/ ", x.behindMore},
		} {
			s := ahead.s + string([]byte{x.c})
			switch ahead.want {
			case "begun":
				checkShort(t, s)
			case "ends":
				checkKey(t, s, api.Ignored, len(s))
				checkKey(t, s+"~", api.Ignored, len(s))
			case "breaks":
				checkKey(t, s, api.Ignored, len(s)-1)
				checkKey(t, s+"~", api.Ignored, len(s)-1)
			}
		}
	}
}

func TestParametersBehindOthers(t *testing.T) {
	for c := byte(48); c <= 63; c++ {
		for _, ahead := range []string{"\x1b[ ", "\x1b[/", "\x1b[3 ", "\x1b[200!", "\x1b[1;2  ", "\x1b[#$%"} {
			for _, tail := range []string{"", "~", "C", " ", "0~", "\x1b[C"} {
				checkKey(t, ahead+string([]byte{c})+tail, api.Ignored, len(ahead))
			}
		}
	}
	checkKey(t, "\x1b[3 0~", api.Ignored, 4)
	checkKey(t, "\x1b[ 3", api.Ignored, 3)
}

// Behind O there is an end at once, or it breaks off.
func TestLetterAndAByte(t *testing.T) {
	for c := range 256 {
		s := "\x1bO" + string([]byte{byte(c)})
		kind, n := api.Ignored, 2
		if c >= 64 && c <= 126 {
			n = 3
		}
		switch c {
		case 'C':
			kind = api.Right
		case 'D':
			kind = api.Left
		case 'H':
			kind = api.Home
		case 'F':
			kind = api.Last
		}
		for _, tail := range []string{"", "C", "~", "0", " ", "\x1b[C", "\xff"} {
			checkKey(t, s+tail, kind, n)
		}
	}
	for _, s := range []string{"0C", "1~", "3~", "7~", "200~", "?C", " C", "/C", "1;5C", strings.Repeat("1", 32) + "C"} {
		checkKey(t, "\x1bO"+s, api.Ignored, 2)
	}
}

// Behind [ and each byte, and behind that one each byte once more.
func TestAllShortOnes(t *testing.T) {
	for c := range 256 {
		for d := range 256 {
			check(t, []byte{byte(c), byte(d)})
			check(t, []byte{27, byte(c), byte(d)})
			check(t, []byte{27, 91, byte(c), byte(d)})
			check(t, []byte{27, 79, byte(c), byte(d)})
			check(t, []byte{27, 91, 50, byte(c), byte(d)})
			check(t, []byte{27, 91, 50, 48, byte(c), byte(d)})
			check(t, []byte{27, 91, 32, byte(c), byte(d)})
		}
	}
}

// As many parameters and others as there may be, one less, and one more, in all shares of both; with and without an end.
func TestAsManyAsThereMayBe(t *testing.T) {
	for all := 30; all <= 70; all++ {
		for params := 0; params <= all; params++ {
			s := "\x1b[" + strings.Repeat("1", params) + strings.Repeat(" ", all-params)
			if all > 32 {
				for _, tail := range []string{"", "~", "C", "\n"} {
					checkKey(t, s+tail, api.Ignored, 34)
				}
				continue
			}
			checkShort(t, s)
			for _, end := range []string{"~", "@", "C", "["} {
				checkKey(t, s+end, api.Ignored, all+3)
				checkKey(t, s+end+"~", api.Ignored, all+3)
			}
			for _, wrong := range []string{"\n", "\x1b", "\x1f", "\x7f", "\xff"} {
				checkKey(t, s+wrong, api.Ignored, all+2)
				checkKey(t, s+wrong+"~", api.Ignored, all+2)
			}
		}
	}
}

// One more than there may be, of each byte: only an end is had.
func TestEachByteBehindAsManyAsThereMayBe(t *testing.T) {
	for _, ahead := range []string{strings.Repeat("0", 32), strings.Repeat("?", 32), strings.Repeat(" ", 32), strings.Repeat("/", 32), strings.Repeat("3", 31) + " ", "1" + strings.Repeat("!", 31), strings.Repeat("1;", 8) + strings.Repeat("# ", 8)} {
		for c := range 256 {
			n := 34
			if c >= 64 && c <= 126 {
				n = 35
			}
			checkKey(t, "\x1b["+ahead+string([]byte{byte(c)}), api.Ignored, n)
			checkKey(t, "\x1b["+ahead+string([]byte{byte(c)})+"~", api.Ignored, n)
		}
	}
}

// All rows of edges behind ESC [, and behind ESC, up to some length.
func TestRowsOfEdges(t *testing.T) {
	l := edges()
	for _, a := range l {
		for _, b := range l {
			for _, c := range l {
				check(t, []byte{27, a, b, c})
				check(t, []byte{27, 91, a, b, c})
				check(t, []byte{27, 91, 51, a, b, c})
			}
		}
	}
}

// Rows by a rule, in which parameters, others and ends are as often as all else.
func TestRowsOfAllSorts(t *testing.T) {
	l := edges()
	kinds := map[int]int{}
	errs := map[api.Errno]int{}
	for _, x := range numbers(50000) {
		b := []byte{27, "[[[O"[x%4]}
		params, others := int(x>>2%20), int(x>>7%20)
		for i := range params {
			b = append(b, 48+byte(x>>(i%40))%16)
		}
		for i := range others {
			b = append(b, 32+byte(x>>(i%50))%16)
		}
		b = append(b, byte(x>>40), l[x>>48%uint64(len(l))], byte(x>>56))
		b = b[:len(b)-int(x>>33%4)]
		check(t, b)
		check(t, b[:int(x>>13)%(len(b)+1)])
		_, n, err := Next(b)
		errs[err]++
		kinds[min(n, 36)]++
	}
	if errs[api.OK] < 5000 || errs[api.ErrShort] < 1000 || len(kinds) < 33 {
		t.Errorf("too few sorts: %v, %v", errs, kinds)
	}
}

// P9.2.

func TestBeginsByHand(t *testing.T) {
	for s, want := range map[string]bool{"": false, "a": false, "[": false, "[C": false, "\x1b": true, "\x1b[": true, "\x1bO": true, "\x1b[2": true, "\x1b[200": true, "\x1b[ ": true, "\x1b[3/": true, "\x1b[C": false, "\x1bOC": false, "\x1b[3~": false, "\x1bA": false, "\x1b\x1b": false, "\x1bO1": false, "\x1b[3\n": false, "\x1b[ 3": false, "\x1b[\x7f": false, "\x1b[A": false} {
		if got := Begins([]byte(s)); got != want {
			t.Errorf("Begins(%q): %v", s, got)
		}
	}
	for n := range 40 {
		s := "\x1b[" + strings.Repeat("1", n)
		if got := Begins([]byte(s)); got != (n <= 32) {
			t.Errorf("Begins of %d parameters: %v", n, got)
		}
	}
}

func TestKnown(t *testing.T) {
	if got := Known(); !slices.Equal(got, fifteen()) {
		t.Errorf("Known: %q", got)
	}
	kinds := map[int]int{}
	for i, s := range Known() {
		if i > 0 && Known()[i-1] >= s {
			t.Errorf("%q stands ahead of %q", Known()[i-1], s)
		}
		key, n, err := Next([]byte(s))
		if key.Kind == api.Ignored || key.C != 0 || n != len(s) || err != api.OK {
			t.Errorf("%q is known: %v, %d, %d", s, key, n, err)
		}
		kinds[key.Kind]++
	}
	for kind, want := range map[int]int{api.Right: 2, api.Left: 2, api.Home: 4, api.Last: 4, api.Delete: 1, api.PasteStart: 1, api.PasteEnd: 1} {
		if kinds[kind] != want {
			t.Errorf("%d sequences of the kind %d, want %d", kinds[kind], kind, want)
		}
	}
}

// No other sequence is a key: all of up to two bytes behind ESC [ or ESC O, and all of three parameters and an end.
func TestNoOthersAreKnown(t *testing.T) {
	seen := map[string]bool{}
	look := func(b ...byte) {
		key, n, err := Next(b)
		if err == api.OK && key.Kind != api.Ignored {
			seen[string(b[:n])] = true
		}
	}
	for c := byte(32); c <= 126; c++ {
		for d := byte(32); d <= 126; d++ {
			look(27, c, d)
			look(27, 91, c, d)
			look(27, 79, c, d)
		}
	}
	for number := range 16 * 16 * 16 {
		for end := byte(64); end <= 126; end++ {
			look(27, 91, byte(48+number/256), byte(48+number/16%16), byte(48+number%16), end)
		}
	}
	if len(seen) != 15 {
		t.Errorf("%d sequences are keys", len(seen))
	}
	for _, s := range fifteen() {
		if !seen[s] {
			t.Errorf("%q isn't seen", s)
		}
	}
}

// Who changes a list that was told changes nothing else: neither another list, nor keys.
func TestKnownBehindAChangeOfAList(t *testing.T) {
	first, second := Known(), Known()
	for i := range first {
		first[i] = "\x1b[A"
	}
	_ = append(first[:0], "\x1b[B", "\x1bOA")
	for _, s := range first[:cap(first)][len(first):] {
		if s != "" {
			t.Errorf("%q lies behind the list", s)
		}
	}
	if !slices.Equal(second, fifteen()) || !slices.Equal(Known(), fifteen()) {
		t.Errorf("Known behind a change: %q, %q", second, Known())
	}
	checkKey(t, "\x1b[A", api.Ignored, 3)
	for _, s := range fifteen() {
		checkKey(t, s, modelKind(s), len(s))
	}
}

// P9.3.

// What stands behind a sequence plays no part: where one is over, the same is told with anything behind it, or with nothing behind the byte at which it breaks off.
func TestWhatStandsBehind(t *testing.T) {
	starts := append(fifteen(), "\x1b[A", "\x1bOA", "\x1b[1;5C", "\x1b[ C", "\x1ba", "\x1b\x1b", "\x1bO1", "\x1b[3\n", "\x1b[3 0", "\x1b[\x7f", "\x1b\xff", "\x1b["+strings.Repeat("1", 32)+"~", "\x1b["+strings.Repeat("1", 33), "\x1b["+strings.Repeat(" ", 33))
	tails := append(fifteen(), "", "~", "C", "\x1b", "\x1b[", "[", "O", "0", " ", "\n", "\x00", "\x7f", "\xff", "\xe2\x82", strings.Repeat("\x1b", 100), strings.Repeat("1", 100), strings.Repeat(" ", 100), strings.Repeat("\x00", 100))
	for _, s := range starts {
		key, n, err := Next([]byte(s))
		if err != api.OK {
			t.Fatalf("%q isn't over: %d", s, err)
		}
		for _, tail := range tails {
			checkAnswer(t, s+tail, key.Kind, n, api.OK)
		}
	}
}

// What lies behind a list's length is neither read nor written.
func TestBehindTheLength(t *testing.T) {
	for _, s := range append(fifteen(), "\x1b[A", "\x1b[3 0~", "\x1ba", "\x1bO1") {
		for cut := range s {
			whole := []byte(s)
			b := whole[:cut]
			check(t, b)
			_, _, err := Next(b)
			_, _, alone := Next([]byte(s[:cut]))
			if err != alone {
				t.Errorf("%q with %q in its memory behind: %d, alone %d", b, s[cut:], err, alone)
			}
			if string(whole) != s {
				t.Errorf("%q was changed to %q", s, whole)
			}
		}
	}
}

// A beginning has at most MaxParams and 2 bytes, and there is one of each length up to that.
func TestTheLongestBeginning(t *testing.T) {
	longest := 0
	for _, part := range []string{"0", "?", " ", "/", "1;", "\x1b", "[", "O", "~", "\x1b[", "\x1bO", "0 ", "a", "\n", "\xff"} {
		row := strings.Repeat(part, 80)
		for _, ahead := range []string{"\x1b[", "\x1b", "\x1bO", "\x1b[1", "\x1b[1 ", ""} {
			for cut := range 70 {
				s := ahead + row[:cut]
				if Begins([]byte(s)) {
					longest = max(longest, len(s))
				}
				check(t, []byte(s))
			}
		}
	}
	if longest != api.MaxParams+2 {
		t.Errorf("the longest beginning has %d bytes", longest)
	}
}

// Each front part of a beginning is one, but the empty one; and a sequence that is over goes on with no byte.
func TestFrontParts(t *testing.T) {
	for _, x := range numbers(20000) {
		b := []byte{27, '['}
		for i := range int(x % 36) {
			b = append(b, []byte("01;? /!~Cx\n")[x>>(i%50)%11])
		}
		_, n, err := Next(b)
		for cut := 1; cut < n; cut++ {
			if !Begins(b[:cut]) {
				t.Errorf("%q isn't begun, but %q has %d bytes", b[:cut], b, n)
			}
		}
		if err == api.OK && Begins(b) {
			t.Errorf("%q is over, and a beginning", b)
		}
	}
}

func TestLongRows(t *testing.T) {
	const many = 1 << 22
	for _, part := range []string{"0", " ", "\x1b", "[", "O", "~", "a", "\x00", "\xff"} {
		row := strings.Repeat(part, many)
		for _, ahead := range []string{"", "\x1b", "\x1b[", "\x1bO", "\x1b[1 ", "\x1b[C"} {
			check(t, []byte(ahead+row))
		}
	}
}

// What a call answers hangs on its arguments alone, whoever calls beside, also with the same bytes.
func TestManyGoroutines(t *testing.T) {
	shared := []byte("\x1b[200~abc")
	var all sync.WaitGroup
	for i := range 16 {
		all.Go(func() {
			for _, x := range numbers(500) {
				b := []byte(fifteen()[x%15])
				b[len(b)-1-int(x>>8)%2] = byte(x >> (16 + i))
				check(t, b)
				check(t, shared)
				if l := Known(); !slices.Equal(l, fifteen()) {
					t.Errorf("Known: %q", l)
				} else {
					l[i%15] = "changed"
				}
			}
		})
	}
	all.Wait()
}

func FuzzAgainstModel(f *testing.F) {
	for _, s := range append(fifteen(), "", "a", "\x1b", "\x1b[3 0~", "\x1bO1", "\x1b["+strings.Repeat("1", 33)+"~", "\x1b["+strings.Repeat(" ", 32)+"~") {
		f.Add([]byte(s))
	}
	f.Fuzz(func(t *testing.T, b []byte) {
		check(t, b)
		check(t, append([]byte{27}, b...))
		check(t, append([]byte{27, '['}, b...))
		check(t, append([]byte{27, 'O'}, b...))
		check(t, append([]byte("\x1b["+strings.Repeat("1", 30)), b...))
	})
}
