package utf

import (
	"bytes"
	"math"
	"slices"
	"sync"
	"testing"

	"whisperer/api"
)

const greatest = 1114111

// The model: the chapter's arithmetic, and sets made of it, without anything of the library's characters.

func modelIsCharacter(c int) bool {
	return 0 <= c && c <= greatest && !(55296 <= c && c <= 57343)
}

func modelBytes(c int) []byte {
	switch {
	case c < 128:
		return []byte{byte(c)}
	case c < 2048:
		return []byte{byte(192 + c/64), byte(128 + c%64)}
	case c < 65536:
		return []byte{byte(224 + c/4096), byte(128 + c/64%64), byte(128 + c%64)}
	}
	return []byte{byte(240 + c/262144), byte(128 + c/4096%64), byte(128 + c/64%64), byte(128 + c%64)}
}

type model struct {
	characters map[string]int
	beginnings map[string]bool
}

var theModel = sync.OnceValue(func() model {
	m := model{map[string]int{}, map[string]bool{}}
	for c := 0; c <= greatest; c++ {
		if !modelIsCharacter(c) {
			continue
		}
		b := string(modelBytes(c))
		m.characters[b] = c
		for n := 1; n < len(b); n++ {
			m.beginnings[b[:n]] = true
		}
	}
	return m
})

func (m model) next(b string) (int, int, api.Errno) {
	if b == "" {
		return 0, 0, api.ErrNone
	}
	longest := 0
	for n := 1; n <= min(4, len(b)); n++ {
		if c, ok := m.characters[b[:n]]; ok {
			return c, n, api.OK
		}
		if m.beginnings[b[:n]] {
			longest = n
		}
	}
	if longest == len(b) {
		return 0, longest, api.ErrShort
	}
	return 0, max(longest, 1), api.ErrForm
}

func (m model) text(b string) ([]byte, int) {
	var out []byte
	count := 0
	for b != "" {
		c, n, err := m.next(b)
		if err != api.OK {
			c = 65533
		}
		out = append(out, modelBytes(c)...)
		b = b[n:]
		count++
	}
	return out, count
}

// edges are bytes on both sides of each border that UTF-8 has.
var edges = []byte{0, 65, 127, 128, 143, 144, 159, 160, 191, 192, 193, 194, 195, 223, 224, 225, 236, 237, 238, 239, 240, 241, 243, 244, 245, 255}

// eachOf calls see with all lists of n of the bytes.
func eachOf(from []byte, n int, see func([]byte)) {
	var fill func([]byte)
	fill = func(b []byte) {
		if len(b) == n {
			see(b)
			return
		}
		for _, x := range from {
			fill(append(b, x))
		}
	}
	fill(make([]byte, 0, n))
}

func allBytes() []byte {
	var l []byte
	for x := range 256 {
		l = append(l, byte(x))
	}
	return l
}

func checkNext(t *testing.T, b []byte, c, n int, err api.Errno) {
	t.Helper()
	if gc, gn, gerr := Next(b); gc != c || gn != n || gerr != err {
		t.Errorf("Next(% d): %d %d %v, want %d %d %v", b, gc, gn, gerr, c, n, err)
	}
}

func checkAgainstModel(t *testing.T, b []byte) {
	t.Helper()
	before := string(b)
	m := theModel()
	c, n, err := m.next(before)
	checkNext(t, b, c, n, err)
	text, count := m.text(before)
	if got := Text(b); !bytes.Equal(got, text) {
		t.Errorf("Text(% d): % d, want % d", b, got, text)
	}
	if got := Count(b); got != count {
		t.Errorf("Count(% d): %d, want %d", b, got, count)
	}
	if string(b) != before {
		t.Errorf("% d was changed to % d", []byte(before), b)
	}
}

// P1.1: Next.

func TestNextNamedInputs(t *testing.T) {
	for _, x := range []struct {
		b    []byte
		c, n int
		err  api.Errno
	}{
		{nil, 0, 0, api.ErrNone},
		{[]byte{}, 0, 0, api.ErrNone},
		{[]byte{0}, 0, 1, api.OK},
		{[]byte{65}, 65, 1, api.OK},
		{[]byte{127, 128}, 127, 1, api.OK},
		{[]byte{194, 128}, 128, 2, api.OK},
		{[]byte{195, 164}, 228, 2, api.OK},
		{[]byte{195, 164, 255}, 228, 2, api.OK},
		{[]byte{223, 191}, 2047, 2, api.OK},
		{[]byte{224, 160, 128}, 2048, 3, api.OK},
		{[]byte{237, 159, 191}, 55295, 3, api.OK},
		{[]byte{238, 128, 128}, 57344, 3, api.OK},
		{[]byte{239, 191, 189}, 65533, 3, api.OK},
		{[]byte{239, 191, 189, 128}, 65533, 3, api.OK},
		{[]byte{239, 191, 191}, 65535, 3, api.OK},
		{[]byte{240, 144, 128, 128}, 65536, 4, api.OK},
		{[]byte{244, 143, 191, 191}, 1114111, 4, api.OK},
		{[]byte{244, 143, 191, 191, 191}, 1114111, 4, api.OK},
		{[]byte{195}, 0, 1, api.ErrShort},
		{[]byte{224}, 0, 1, api.ErrShort},
		{[]byte{226, 130}, 0, 2, api.ErrShort},
		{[]byte{237, 159}, 0, 2, api.ErrShort},
		{[]byte{239, 191}, 0, 2, api.ErrShort},
		{[]byte{240}, 0, 1, api.ErrShort},
		{[]byte{240, 144}, 0, 2, api.ErrShort},
		{[]byte{244, 143, 191}, 0, 3, api.ErrShort},
		{[]byte{195, 65}, 0, 1, api.ErrForm},
		{[]byte{195, 195}, 0, 1, api.ErrForm},
		{[]byte{226, 130, 65}, 0, 2, api.ErrForm},
		{[]byte{240, 159, 152, 65}, 0, 3, api.ErrForm},
		{[]byte{240, 159, 152, 65, 65}, 0, 3, api.ErrForm},
		{[]byte{255}, 0, 1, api.ErrForm},
		{[]byte{128}, 0, 1, api.ErrForm},
		{[]byte{191, 128, 128}, 0, 1, api.ErrForm},
		{[]byte{192}, 0, 1, api.ErrForm},
		{[]byte{193, 191}, 0, 1, api.ErrForm},
		{[]byte{224, 159, 191}, 0, 1, api.ErrForm},
		{[]byte{237, 160}, 0, 1, api.ErrForm},
		{[]byte{237, 191, 191}, 0, 1, api.ErrForm},
		{[]byte{240, 143, 191, 191}, 0, 1, api.ErrForm},
		{[]byte{244, 144}, 0, 1, api.ErrForm},
		{[]byte{244, 144, 128, 128}, 0, 1, api.ErrForm},
		{[]byte{245}, 0, 1, api.ErrForm},
		{[]byte{248, 136, 128, 128, 128}, 0, 1, api.ErrForm},
	} {
		checkNext(t, x.b, x.c, x.n, x.err)
	}
}

func TestAllOfUpToTwoBytes(t *testing.T) {
	for n := range 3 {
		eachOf(allBytes(), n, func(b []byte) { checkAgainstModel(t, b) })
	}
}

func TestEdgesOfThreeAndFourBytes(t *testing.T) {
	for n := 3; n <= 4; n++ {
		eachOf(edges, n, func(b []byte) { checkAgainstModel(t, b) })
	}
}

func TestEveryBeginningAlone(t *testing.T) {
	for s := range theModel().beginnings {
		checkNext(t, []byte(s), 0, len(s), api.ErrShort)
	}
}

func TestEveryBeginningBrokenOff(t *testing.T) {
	for s := range theModel().beginnings {
		for _, x := range []byte{0, 65, 127, 192, 195, 226, 240, 255} {
			checkNext(t, append([]byte(s), x), 0, len(s), api.ErrForm)
		}
	}
}

// What lies behind a list's length isn't read.
func TestNothingBehindTheLengthIsRead(t *testing.T) {
	whole := []byte{240, 159, 152, 128, 65}
	for n := 1; n < 4; n++ {
		checkNext(t, whole[:n], 0, n, api.ErrShort)
		if text := Text(whole[:n]); !bytes.Equal(text, modelBytes(65533)) {
			t.Errorf("%d bytes: % d", n, text)
		}
	}
	checkNext(t, whole[:0], 0, 0, api.ErrNone)
}

// P1.1: Put and Printable.

func TestPutOfEveryNumberAroundCharacters(t *testing.T) {
	for c := -70000; c <= greatest+70000; c++ {
		b, err := Put(c)
		if !modelIsCharacter(c) {
			if err != api.ErrRange || len(b) != 0 {
				t.Fatalf("Put(%d): % d %v", c, b, err)
			}
			continue
		}
		if err != api.OK || !bytes.Equal(b, modelBytes(c)) {
			t.Fatalf("Put(%d): % d %v", c, b, err)
		}
	}
}

func TestPutNamedNumbers(t *testing.T) {
	for _, x := range []struct {
		c    int
		want []byte
	}{
		{0, []byte{0}},
		{127, []byte{127}},
		{128, []byte{194, 128}},
		{228, []byte{195, 164}},
		{2047, []byte{223, 191}},
		{2048, []byte{224, 160, 128}},
		{55295, []byte{237, 159, 191}},
		{57344, []byte{238, 128, 128}},
		{65533, []byte{239, 191, 189}},
		{65535, []byte{239, 191, 191}},
		{65536, []byte{240, 144, 128, 128}},
		{1114111, []byte{244, 143, 191, 191}},
	} {
		if b, err := Put(x.c); err != api.OK || !bytes.Equal(b, x.want) {
			t.Errorf("Put(%d): % d %v, want % d", x.c, b, err, x.want)
		}
	}
	for _, c := range []int{-1, 55296, 56000, 57343, 1114112} {
		if b, err := Put(c); err != api.ErrRange || len(b) != 0 {
			t.Errorf("Put(%d): % d %v", c, b, err)
		}
	}
}

// farNumbers are no characters, but some would be, if only their lower 32 or 16 bits, or 21, were looked at.
var farNumbers = []int{math.MinInt, math.MinInt + 65, math.MaxInt, math.MinInt32, math.MaxInt32, 1<<32 + 65, -1<<32 + 65, 1<<32 + 65533, 1<<40 + 228, 1<<21 + 65, -65}

func TestFarNumbers(t *testing.T) {
	for _, c := range farNumbers {
		if b, err := Put(c); err != api.ErrRange || len(b) != 0 {
			t.Errorf("Put(%d): % d %v", c, b, err)
		}
		if Printable(c) {
			t.Errorf("Printable(%d)", c)
		}
	}
}

func TestPrintable(t *testing.T) {
	for c := -70000; c <= greatest+70000; c++ {
		want := modelIsCharacter(c) && !(c < 32) && !(127 <= c && c <= 159)
		if Printable(c) != want {
			t.Fatalf("Printable(%d): %v", c, !want)
		}
	}
	for c, want := range map[int]bool{-1: false, 0: false, 31: false, 32: true, 126: true, 127: false, 159: false, 160: true, 55295: true, 55296: false, 57343: false, 57344: true, 65533: true, 1114111: true, 1114112: false} {
		if Printable(c) != want {
			t.Errorf("Printable(%d): %v", c, !want)
		}
	}
}

// P1.2.

func TestTextAndCount(t *testing.T) {
	wrong := modelBytes(65533)
	for _, x := range []struct {
		b, want []byte
		count   int
	}{
		{nil, nil, 0},
		{[]byte{}, nil, 0},
		{[]byte{0, 65}, []byte{0, 65}, 2},
		{[]byte{65, 195, 164}, []byte{65, 195, 164}, 2},
		{wrong, wrong, 1},
		{[]byte{239, 191}, wrong, 1},
		{[]byte{255}, wrong, 1},
		{[]byte{195}, wrong, 1},
		{[]byte{226, 130}, wrong, 1},
		{[]byte{240, 159, 152}, wrong, 1},
		{[]byte{226, 130, 65}, slices.Concat(wrong, []byte{65}), 2},
		{[]byte{65, 255, 66}, slices.Concat([]byte{65}, wrong, []byte{66}), 3},
		{[]byte{195, 195, 164}, slices.Concat(wrong, []byte{195, 164}), 2},
		{[]byte{240, 159, 240, 159, 152, 128}, slices.Concat(wrong, []byte{240, 159, 152, 128}), 2},
		{[]byte{240, 159, 152, 240, 159, 152}, slices.Concat(wrong, wrong), 2},
		{[]byte{195, 164, 128, 128}, slices.Concat([]byte{195, 164}, wrong, wrong), 3},
		{[]byte{237, 160, 128}, slices.Concat(wrong, wrong, wrong), 3},
		{[]byte{244, 144, 128, 128}, slices.Concat(wrong, wrong, wrong, wrong), 4},
		{[]byte{192, 128}, slices.Concat(wrong, wrong), 2},
	} {
		if got := Text(x.b); !bytes.Equal(got, x.want) {
			t.Errorf("Text(% d): % d, want % d", x.b, got, x.want)
		}
		if got := Count(x.b); got != x.count {
			t.Errorf("Count(% d): %d, want %d", x.b, got, x.count)
		}
	}
}

// long is many bytes of all sorts, by a rule: each is one of the edges.
func long(n int) []byte {
	b := make([]byte, n)
	x := uint32(1)
	for i := range b {
		x = x*1664525 + 1013904223
		b[i] = edges[int(x>>16)%len(edges)]
	}
	return b
}

func TestLongTexts(t *testing.T) {
	for _, n := range []int{5, 31, 32, 33, 64, 1000, 100000} {
		checkAgainstModel(t, long(n))
	}
}

// P1.3.

func TestWhatIsPutIsNextWhateverStandsBehind(t *testing.T) {
	behind := [][]byte{nil, {0}, {65}, {128}, {191, 191, 191}, {195}, {240, 159, 152, 128}, {255}}
	for c := 0; c <= greatest; c++ {
		if !modelIsCharacter(c) {
			continue
		}
		b, _ := Put(c)
		for _, x := range behind {
			if got, n, err := Next(append(slices.Clip(b), x...)); got != c || n != len(b) || err != api.OK {
				t.Fatalf("%d with % d behind: %d %d %v", c, x, got, n, err)
			}
		}
	}
}

func TestATextOfCharactersIsItself(t *testing.T) {
	var all []byte
	count := 0
	for c := 0; c <= greatest; c++ {
		if b, err := Put(c); err == api.OK {
			all = append(all, b...)
			count++
		}
	}
	if count != greatest+1-2048 {
		t.Fatal(count)
	}
	if !bytes.Equal(Text(all), all) || Count(all) != count {
		t.Error("a text of all characters isn't itself")
	}
}

func TestTextOfATextIsThatText(t *testing.T) {
	see := func(b []byte) {
		once := Text(b)
		if twice := Text(once); !bytes.Equal(once, twice) || Count(once) != Count(b) {
			t.Errorf("% d: % d, then % d", b, once, twice)
		}
	}
	for n := range 4 {
		eachOf(edges, n, see)
	}
	see(long(10000))
}

// The rules on lists: an answer shares nothing with an argument, nor with another answer.

func TestAnswersAreNewMemory(t *testing.T) {
	b := []byte{65, 195, 164, 66}
	first, second := Text(b), Text(b)
	clear(first)
	if !bytes.Equal(b, []byte{65, 195, 164, 66}) || !bytes.Equal(second, b) {
		t.Errorf("Text shares: % d % d", b, second)
	}
	one, _ := Put(228)
	other, _ := Put(228)
	clear(one)
	if !bytes.Equal(other, []byte{195, 164}) {
		t.Errorf("Put shares: % d", other)
	}
}

// P1, and many goroutines at a time.

func TestManyAtATime(t *testing.T) {
	b := long(2000)
	text, count := Text(b), Count(b)
	var all sync.WaitGroup
	for range 8 {
		all.Go(func() {
			if !bytes.Equal(Text(b), text) || Count(b) != count {
				t.Error("another answer at another time")
			}
		})
	}
	all.Wait()
}

func FuzzAgainstModel(f *testing.F) {
	f.Add([]byte{226, 130, 65})
	f.Add(long(40))
	f.Fuzz(checkAgainstModel)
}
