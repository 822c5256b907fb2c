package trace

import (
	"bytes"
	"encoding/hex"
	"fmt"
	"math"
	"reflect"
	"regexp"
	"slices"
	"strconv"
	"strings"
	"sync"
	"testing"

	"whisperer/api"
	"whisperer/attrs"
)

// The model: a line by its kind's format, and a form for each kind's line; attributes are layer 6's.

func modelWent(ok bool) string {
	return map[bool]string{true: "ok", false: "fail"}[ok]
}

func modelBytes(b []byte) string {
	if len(b) == 0 {
		return "-"
	}
	return fmt.Sprintf("%x", b)
}

func modelLine(e api.Effect) (string, api.Errno) {
	bare := api.Effect{Kind: e.Kind}
	line := ""
	switch e.Kind {
	case 0:
		bare.Ok, bare.Attrs = e.Ok, e.Attrs
		line = fmt.Sprintf("got %s %s", modelWent(e.Ok), attrs.Text(e.Attrs))
	case 1:
		bare.Ok, bare.Attrs = e.Ok, e.Attrs
		line = fmt.Sprintf("was %s %s", modelWent(e.Ok), attrs.Text(e.Attrs))
	case 2:
		bare.Ok, bare.Data, bare.N = e.Ok, e.Data, e.N
		line = fmt.Sprintf("wrote %s %s %d", modelWent(e.Ok), modelBytes(e.Data), e.N)
	case 3:
		bare.Ok, bare.N = e.Ok, e.N
		line = fmt.Sprintf("read %s %d", modelWent(e.Ok), e.N)
	case 4:
		bare.N = e.N
		line = fmt.Sprintf("signal %d", e.N)
	case 5:
		line = "end"
	case 6:
		line = "history"
	default:
		return "", api.ErrKind
	}
	if !modelEqual(e, bare) || e.N < 0 {
		return "", api.ErrForm
	}
	return line, api.OK
}

// modelEqual holds all fields against each other at once, with no bytes as none.
func modelEqual(a, b api.Effect) bool {
	a.Data, b.Data = append([]byte{}, a.Data...), append([]byte{}, b.Data...)
	return reflect.DeepEqual(a, b)
}

// attrsForm and the forms of all kinds' lines.
const (
	attrsForm  = `(\S+ \d{1,3} \d{1,3})`
	numberForm = `(0|[1-9][0-9]{0,17})`
	bytesForm  = `(-|(?:[0-9a-f][0-9a-f])+)`
)

var lineForms = []*regexp.Regexp{
	regexp.MustCompile(`\Agot (ok|fail) ` + attrsForm + `\z`),
	regexp.MustCompile(`\Awas (ok|fail) ` + attrsForm + `\z`),
	regexp.MustCompile(`\Awrote (ok|fail) ` + bytesForm + ` ` + numberForm + `\z`),
	regexp.MustCompile(`\Aread (ok|fail) ` + numberForm + `\z`),
	regexp.MustCompile(`\Asignal ` + numberForm + `\z`),
	regexp.MustCompile(`\Aend\z`),
	regexp.MustCompile(`\Ahistory\z`),
}

func modelNumber(s string) int {
	n := 0
	for _, digit := range s {
		n = n*10 + int(digit-'0')
	}
	return n
}

func modelRead(s string) (api.Effect, api.Errno) {
	for kind, f := range lineForms {
		m := f.FindStringSubmatch(s)
		if m == nil {
			continue
		}
		e := api.Effect{Kind: kind}
		switch kind {
		case 0, 1:
			a, err := attrs.Read(m[2])
			if err != api.OK {
				return api.Effect{}, api.ErrForm
			}
			e.Ok, e.Attrs = m[1] == "ok", a
		case 2:
			e.Ok, e.N = m[1] == "ok", modelNumber(m[3])
			e.Data, _ = hex.DecodeString(strings.Trim(m[2], "-"))
		case 3:
			e.Ok, e.N = m[1] == "ok", modelNumber(m[2])
		case 4:
			e.N = modelNumber(m[1])
		}
		return e, api.OK
	}
	return api.Effect{}, api.ErrForm
}

func modelFormat(l []api.Effect) (string, api.Errno) {
	lines := []string{}
	for _, e := range l {
		line, err := modelLine(e)
		if err != api.OK {
			return "", err
		}
		lines = append(lines, line)
	}
	return strings.Join(append(lines, ""), "\n"), api.OK
}

func modelParse(s string) ([]api.Effect, int, api.Errno) {
	lines := strings.Split(s, "\n")
	last := len(lines) - 1
	var l []api.Effect
	for i, line := range lines[:last] {
		e, err := modelRead(line)
		if err != api.OK {
			return nil, i, api.ErrForm
		}
		l = append(l, e)
	}
	if lines[last] != "" {
		return nil, last, api.ErrForm
	}
	return l, last, api.OK
}

func modelWritten(l []api.Effect) []byte {
	var all []byte
	for _, e := range l {
		for i, c := range e.Data {
			if e.Kind == 2 && i < e.N {
				all = append(all, c)
			}
		}
	}
	return all
}

// numbers are n of 64 bits, of all sorts, by a rule.
func numbers(n int) []uint64 {
	l := make([]uint64, n)
	x := uint64(1)
	for i := range l {
		x = x*6364136223846793005 + 1442695040888963407
		l[i] = x ^ x>>29
	}
	return l
}

func allBytes() []byte {
	b := make([]byte, 256)
	for i := range b {
		b[i] = byte(i)
	}
	return b
}

const most18 = 999999999999999999 // the greatest number of 18 digits

// someNumbers are the edges, and where the number of decimals changes; none is below 0.
func someNumbers() []int {
	return []int{0, 1, 2, 9, 10, 11, 64, 99, 100, 255, 256, 1024, 4096, 1<<31 - 1, 1 << 31, 1 << 32, 1 << 53, most18 - 1, most18, most18 + 1, math.MaxInt - 1, math.MaxInt}
}

func someAttrs() []api.Attrs {
	return []api.Attrs{{}, {Flags: 1}, {Flags: 67, Min: 4}, {Flags: 128}, {Flags: 127, Min: 255, Time: 255}, {Flags: 0xabcdef80, Time: 1}, {Flags: math.MaxUint32, Min: 1, Time: 10}, {Min: 1}, {Time: 1}}
}

func someData() [][]byte {
	l := [][]byte{nil, {}, {0}, {1}, {10}, {15}, {16}, {32}, {45}, {159}, {160}, {255}, {13, 10}, {27, 91, 75}, {0, 0, 0}, allBytes()}
	for c := range 256 {
		l = append(l, []byte{byte(c)}, []byte{byte(c), byte(255 - c)})
	}
	return l
}

// rightEffects have a line each, and it is read again (no number has more than 18 digits).
func rightEffects() []api.Effect {
	l := []api.Effect{{Kind: 5}, {Kind: 6}}
	for _, ok := range []bool{false, true} {
		for _, a := range someAttrs() {
			l = append(l, api.Effect{Kind: 0, Ok: ok, Attrs: a}, api.Effect{Kind: 1, Ok: ok, Attrs: a})
		}
		for i, b := range someData() {
			l = append(l, api.Effect{Kind: 2, Ok: ok, Data: b, N: len(b)}, api.Effect{Kind: 2, Ok: ok, Data: b, N: i})
		}
		for _, n := range someNumbers() {
			if n <= most18 {
				l = append(l, api.Effect{Kind: 2, Ok: ok, N: n}, api.Effect{Kind: 2, Ok: ok, Data: []byte("A"), N: n}, api.Effect{Kind: 3, Ok: ok, N: n}, api.Effect{Kind: 4, N: n})
			}
		}
	}
	return l
}

// anyEffects are of all sorts: all kinds and some that are none, with each choice of fields that are set.
func anyEffects() []api.Effect {
	var l []api.Effect
	for _, kind := range []int{math.MinInt, -7, -2, -1, 0, 1, 2, 3, 4, 5, 6, 7, 8, 9, 255, 256, 1 << 32, math.MaxInt} {
		for _, a := range []api.Attrs{{}, {Flags: 1}, {Flags: 1 << 31}, {Min: 1}, {Time: 1}} {
			for _, b := range [][]byte{nil, {}, {0}, {65, 66}} {
				for _, n := range []int{0, 1, 2, 3, -1, math.MinInt, math.MaxInt, most18, most18 + 1} {
					l = append(l, api.Effect{Kind: kind, Attrs: a, Data: b, N: n}, api.Effect{Kind: kind, Attrs: a, Data: b, N: n, Ok: true})
				}
			}
		}
	}
	return l
}

func checkLine(t *testing.T, e api.Effect) {
	t.Helper()
	want, wantErr := modelLine(e)
	data := slices.Clone(e.Data)
	got, err := Line(e)
	if got != want || err != wantErr {
		t.Errorf("Line(%v): %.200q, %d, want %.200q, %d", e, got, err, want, wantErr)
	}
	if !bytes.Equal(data, e.Data) {
		t.Errorf("Line(%v): the bytes were %v", e, data)
	}
}

func checkRead(t *testing.T, s string) {
	t.Helper()
	want, wantErr := modelRead(s)
	got, err := Read(s)
	if !modelEqual(got, want) || err != wantErr {
		t.Errorf("Read(%.200q): %v, %d, want %v, %d", s, got, err, want, wantErr)
	}
	if err != api.OK {
		return
	}
	if again, err := Line(got); again != s || err != api.OK {
		t.Errorf("Read(%.200q): %v, of the line %.200q, %d", s, got, again, err)
	}
}

func checkNoLine(t *testing.T, s string) {
	t.Helper()
	if e, err := Read(s); !modelEqual(e, api.Effect{}) || err != api.ErrForm {
		t.Errorf("Read(%.200q): %v, %d, want none, %d", s, e, err, api.ErrForm)
	}
}

func checkFormat(t *testing.T, l []api.Effect) {
	t.Helper()
	want, wantErr := modelFormat(l)
	if got, err := Format(l...); got != want || err != wantErr {
		t.Errorf("Format(%v): %.200q, %d, want %.200q, %d", l, got, err, want, wantErr)
	}
}

func checkParse(t *testing.T, s string) {
	t.Helper()
	want, wantN, wantErr := modelParse(s)
	got, n, err := Parse(s)
	if !slices.EqualFunc(got, want, modelEqual) || n != wantN || err != wantErr {
		t.Errorf("Parse(%.200q): %v, %d, %d, want %v, %d, %d", s, got, n, err, want, wantN, wantErr)
	}
	if err != api.OK {
		return
	}
	if again, err := Format(got...); again != s || err != api.OK {
		t.Errorf("Parse(%.200q): %v, of the text %.200q, %d", s, got, again, err)
	}
}

func checkWrong(t *testing.T, s string, at int) {
	t.Helper()
	if l, n, err := Parse(s); len(l) != 0 || n != at || err != api.ErrForm {
		t.Errorf("Parse(%.200q): %v, %d, %d, want none, %d, %d", s, l, n, err, at, api.ErrForm)
	}
}

// P7.1.

func TestLinesByHand(t *testing.T) {
	for _, x := range []struct {
		e    api.Effect
		line string
	}{
		{api.Effect{}, "got fail - 0 0"},
		{api.Effect{Ok: true}, "got ok - 0 0"},
		{api.Effect{Kind: api.Got, Ok: true, Attrs: api.Attrs{Flags: 67, Min: 4}}, "got ok echo+canon+post 4 0"},
		{api.Effect{Kind: api.Got, Attrs: api.Attrs{Flags: 128, Time: 255}}, "got fail x80 0 255"},
		{api.Effect{Kind: api.Was}, "was fail - 0 0"},
		{api.Effect{Kind: api.Was, Ok: true, Attrs: api.Attrs{Flags: 64, Min: 1}}, "was ok post 1 0"},
		{api.Effect{Kind: api.Was, Attrs: api.Attrs{Flags: math.MaxUint32, Min: 255, Time: 255}}, "was fail echo+canon+signals+extend+flow+crtonl+post+xffffff80 255 255"},
		{api.Effect{Kind: api.Wrote}, "wrote fail - 0"},
		{api.Effect{Kind: api.Wrote, Data: []byte{}, Ok: true}, "wrote ok - 0"},
		{api.Effect{Kind: api.Wrote, Data: []byte("\r\n"), N: 2, Ok: true}, "wrote ok 0d0a 2"},
		{api.Effect{Kind: api.Wrote, Data: []byte{0}, N: 1, Ok: true}, "wrote ok 00 1"},
		{api.Effect{Kind: api.Wrote, Data: []byte{255, 16, 1, 171, 205}, N: 3}, "wrote fail ff1001abcd 3"},
		{api.Effect{Kind: api.Wrote, N: 7, Ok: true}, "wrote ok - 7"},
		{api.Effect{Kind: api.Wrote, Data: []byte("-"), N: most18, Ok: true}, "wrote ok 2d 999999999999999999"},
		{api.Effect{Kind: api.Read}, "read fail 0"},
		{api.Effect{Kind: api.Read, Ok: true}, "read ok 0"},
		{api.Effect{Kind: api.Read, N: 64, Ok: true}, "read ok 64"},
		{api.Effect{Kind: api.Read, N: 1}, "read fail 1"},
		{api.Effect{Kind: api.Read, N: 100000000000000000}, "read fail 100000000000000000"},
		{api.Effect{Kind: api.Signal}, "signal 0"},
		{api.Effect{Kind: api.Signal, N: 15}, "signal 15"},
		{api.Effect{Kind: api.Signal, N: most18}, "signal 999999999999999999"},
		{api.Effect{Kind: api.End}, "end"},
		{api.Effect{Kind: api.History}, "history"},
		{api.Effect{Kind: api.History, Data: []byte{}}, "history"},
	} {
		if got, err := Line(x.e); got != x.line || err != api.OK {
			t.Errorf("Line(%v): %q, %d, want %q", x.e, got, err, x.line)
		}
		if got, err := Read(x.line); !modelEqual(got, x.e) || err != api.OK {
			t.Errorf("Read(%q): %v, %d, want %v", x.line, got, err, x.e)
		}
	}
}

func TestLineOfNoKind(t *testing.T) {
	for _, kind := range []int{-1, 7, -2, 8, 9, -7, 255, 256, math.MinInt, math.MaxInt, math.MinInt32, 1 << 32, 1<<32 + 5} {
		for _, e := range []api.Effect{{}, {N: -1}, {N: 1}, {Ok: true}, {Data: []byte{1}}, {Attrs: api.Attrs{Min: 1}}} {
			e.Kind = kind
			if s, err := Line(e); s != "" || err != api.ErrKind {
				t.Errorf("Line(%v): %q, %d", e, s, err)
			}
		}
	}
}

func TestLineOfAFieldThatIsNotTold(t *testing.T) {
	a, b := api.Attrs{Flags: 1}, []byte{0}
	for _, e := range []api.Effect{
		{Kind: api.Got, Data: b}, {Kind: api.Got, N: 1}, {Kind: api.Got, N: -1}, {Kind: api.Got, Ok: true, Attrs: a, Data: b}, {Kind: api.Got, Ok: true, Attrs: a, N: 1},
		{Kind: api.Was, Data: b}, {Kind: api.Was, N: 1}, {Kind: api.Was, N: -1}, {Kind: api.Was, Ok: true, Attrs: a, Data: b}, {Kind: api.Was, Ok: true, Attrs: a, N: 1},
		{Kind: api.Wrote, Attrs: a}, {Kind: api.Wrote, Attrs: api.Attrs{Min: 1}}, {Kind: api.Wrote, Attrs: api.Attrs{Time: 1}}, {Kind: api.Wrote, Ok: true, Data: b, N: 1, Attrs: a}, {Kind: api.Wrote, N: -1}, {Kind: api.Wrote, N: math.MinInt, Data: b, Ok: true},
		{Kind: api.Read, Attrs: a}, {Kind: api.Read, Data: b}, {Kind: api.Read, Ok: true, N: 1, Data: b}, {Kind: api.Read, Ok: true, N: 1, Attrs: a}, {Kind: api.Read, N: -1}, {Kind: api.Read, N: math.MinInt, Ok: true},
		{Kind: api.Signal, Ok: true}, {Kind: api.Signal, Attrs: a}, {Kind: api.Signal, Data: b}, {Kind: api.Signal, N: 2, Ok: true}, {Kind: api.Signal, N: -1}, {Kind: api.Signal, N: math.MinInt},
		{Kind: api.End, Ok: true}, {Kind: api.End, Attrs: a}, {Kind: api.End, Data: b}, {Kind: api.End, N: 1}, {Kind: api.End, N: -1},
		{Kind: api.History, Ok: true}, {Kind: api.History, Attrs: a}, {Kind: api.History, Data: b}, {Kind: api.History, N: 1}, {Kind: api.History, N: -1},
	} {
		if s, err := Line(e); s != "" || err != api.ErrForm {
			t.Errorf("Line(%v): %q, %d", e, s, err)
		}
	}
}

func TestLineOfAllSorts(t *testing.T) {
	for _, e := range anyEffects() {
		checkLine(t, e)
	}
	for _, e := range rightEffects() {
		checkLine(t, e)
	}
}

// A number of 19 digits is written, as its decimals are all that a line needs, but isn't read.
func TestNumbersOf18And19Digits(t *testing.T) {
	for _, n := range someNumbers() {
		digits := strconv.Itoa(n)
		for line, e := range map[string]api.Effect{"wrote ok - " + digits: {Kind: 2, N: n, Ok: true}, "read fail " + digits: {Kind: 3, N: n}, "signal " + digits: {Kind: 4, N: n}} {
			if got, err := Line(e); got != line || err != api.OK {
				t.Errorf("Line(%v): %q, %d", e, got, err)
			}
			got, err := Read(line)
			if n <= most18 && (!modelEqual(got, e) || err != api.OK) {
				t.Errorf("Read(%q): %v, %d", line, got, err)
			}
			if n > most18 && (!modelEqual(got, api.Effect{}) || err != api.ErrForm) {
				t.Errorf("Read(%q): %v, %d", line, got, err)
			}
		}
	}
	for _, digits := range []string{"1000000000000000000", "1234567890123456789", "9223372036854775807", "9223372036854775808", "9999999999999999999", "18446744073709551616", "18446744073709551617", "0000000000000000001", "100000000000000000000000000000000"} {
		for _, s := range []string{"wrote ok - " + digits, "read ok " + digits, "signal " + digits} {
			checkNoLine(t, s)
		}
	}
}

func TestNoLines(t *testing.T) {
	for _, s := range []string{
		// The empty line; unknown words.
		"", " ", "  ", "-", "0", "ok", "fail", "x", "Got ok - 0 0", "GOT ok - 0 0", "gott ok - 0 0", "go ok - 0 0", "set ok - 0 0", "write ok - 0", "wrot ok - 0", "reads ok 1", "sig 1", "signals 1", "ends", "en", "End", "END", "histor", "historyy", "0 ok - 0 0", "5", "got,ok,-,0,0",
		// A word too few or too many.
		"got", "got ok", "got ok -", "got ok - 0", "got - 0 0", "got echo 0 0", "was", "was ok", "was ok echo 0", "was echo 0 0", "got ok - 0 0 0", "was ok echo 1 0 0", "got ok ok - 0 0", "got ok - 0 0 ok",
		"wrote", "wrote ok", "wrote ok -", "wrote ok 41", "wrote ok 1", "wrote - 0", "wrote 41 1", "wrote ok - 0 0", "wrote ok 41 1 1", "wrote ok 41 42 2", "wrote ok ok 41 1", "wrote ok - - 0",
		"read", "read ok", "read 1", "read ok 1 1", "read ok ok 1", "read ok - 1", "read ok 41 1", "signal", "signal ok", "signal ok 1", "signal 1 2", "signal 1 ok", "end 0", "end ok", "end end", "end -", "history 0", "history ok", "history history", "end history",
		// A blank at the start, at the end, or twice; another byte for one.
		" end", "end ", " history", "history ", " got ok - 0 0", "got ok - 0 0 ", "got  ok - 0 0", "got ok  - 0 0", "got ok -  0 0", "got ok - 0  0", " was ok - 0 0", "was ok - 0 0 ", "was  ok - 0 0", "was ok  - 0 0",
		" wrote ok 41 1", "wrote ok 41 1 ", "wrote  ok 41 1", "wrote ok  41 1", "wrote ok 41  1", " read ok 1", "read ok 1 ", "read  ok 1", "read ok  1", " signal 1", "signal 1 ", "signal  1", "signal ", "read ok ", "read ", "wrote ok 41 ", "wrote ok ", "got ", "got ok ",
		"got\tok - 0 0", "read\tok 1", "read ok\t1", "signal\n1", "signal 1\n", "end\n", "\nend", "end\r", "end\x00", "\x00end", "end\t", "read_ok_1", "read ok\u00a01", "signal1", "readok 1", "read ok1", "gotok - 0 0", "wrote ok411", "wroteok 41 1",
		// How it went in other words.
		"got no - 0 0", "got Ok - 0 0", "got OK - 0 0", "got okay - 0 0", "got o - 0 0", "got true - 0 0", "got 1 - 0 0", "got failed - 0 0", "got Fail - 0 0", "got fai - 0 0", "got - - 0 0", "was no - 0 0", "was FAIL - 0 0", "was false - 0 0",
		"wrote no 41 1", "wrote OK 41 1", "wrote okfail 41 1", "read no 1", "read Ok 1", "read fails 1", "read 0 1", "read true 1", "read okay 1",
		// Bytes with an odd digit, a capital letter, or empty in place of -.
		"wrote ok 4 1", "wrote ok 414 1", "wrote ok 0 1", "wrote ok 41424 2", "wrote ok 0A 1", "wrote ok A0 1", "wrote ok Aa 1", "wrote ok 0D0a 2", "wrote ok FF 1", "wrote ok fF 1", "wrote ok  0", "wrote ok 4g 1", "wrote ok g4 1", "wrote ok /0 1", "wrote ok :0 1", "wrote ok 0` 1", "wrote ok @0 1",
		"wrote ok -- 0", "wrote ok -41 1", "wrote ok 41- 1", "wrote ok -4 1", "wrote ok +4 1", "wrote ok 0x41 1", "wrote ok x4 1", "wrote ok 4_ 1", "wrote ok 4\xff 1", "wrote ok \u0664\u0661 1", "wrote ok \u00e4 1", "wrote ok 41,42 2", "wrote ok A 1",
		// A number with a 0 ahead, a sign or no digit.
		"read fail 05", "read ok 00", "read ok 01", "read ok +1", "read ok -1", "read ok -0", "read ok +0", "read ok -", "read ok +", "read ok a", "read ok 1a", "read ok a1", "read ok 1.0", "read ok 1.", "read ok 1e3", "read ok 1_0", "read ok 0x1", "read ok 0b1", "read ok 0o1", "read ok \u0661", "read ok \uff11", "read ok 1\x00", "read ok \xff", "read ok 1,000",
		"signal 00", "signal 015", "signal +15", "signal -15", "signal -", "signal a", "signal 1a", "signal 0x9", "signal \u00b2", "signal KILL", "wrote ok 41 01", "wrote ok - 00", "wrote ok - 01", "wrote ok 41 -1", "wrote ok 41 +1", "wrote ok 41 a", "wrote ok 41 -",
		// Attributes that are no attributes' text.
		"got ok canon+echo 0 0", "got ok echo+echo 0 0", "got ok Echo 0 0", "got ok echo+ 0 0", "got ok x 0 0", "got ok x080 0 0", "got ok x1 0 0", "got ok x100000000 0 0", "got ok - 256 0", "got ok - 0 256", "got ok - 00 0", "got ok - 0 01", "got ok - -1 0", "got ok - 0 +1", "got ok 0 0", "got ok  0 0", "got ok other 0 0",
		"was ok canon+echo 0 0", "was fail echo+- 0 0", "was fail - 0 a", "was fail 1 0 0", "was fail x80+post 0 0",
		// Two lines; any bytes.
		"end\nend", "read ok 1\nread ok 1", "got ok - 0 0\n", "\n", "\xff", "\x00", "e\xffd", "wrote ok \xff\xff 1", "\ufeffend", "\uff45nd", "wrote\xffok 41 1",
	} {
		checkNoLine(t, s)
		if _, err := modelRead(s); err != api.ErrForm {
			t.Errorf("the model reads %q", s)
		}
	}
}

// near are all texts that are made of s by one byte more, less, or another one, by two neighbours changed, by a piece taken away, or by one laid twice.
func near(s string) []string {
	var l []string
	for i := range len(s) + 1 {
		for _, c := range "\x00\n +-/0129:@AFX`acdefgiklorswtx\x7f" {
			l = append(l, s[:i]+string(c)+s[i:])
			if i < len(s) {
				l = append(l, s[:i]+string(c)+s[i+1:])
			}
		}
		if i+1 < len(s) {
			l = append(l, s[:i]+s[i+1:i+2]+s[i:i+1]+s[i+2:])
		}
		for j := i + 1; j <= len(s); j++ {
			l = append(l, s[:i]+s[j:], s[:j]+s[i:])
		}
	}
	return l
}

func TestTextsNearLines(t *testing.T) {
	right, wrong := 0, 0
	for _, s := range []string{"got ok - 0 0", "got fail echo+x80 25 1", "was ok canon+post 4 10", "was fail - 1 0", "wrote ok - 0", "wrote fail 0d0a 2", "wrote ok a0b1c2ff 10", "read ok 0", "read fail 64", "read ok 99999999999999999", "signal 0", "signal 15", "signal 123456789012345678", "end", "history"} {
		checkRead(t, s)
		for _, changed := range near(s) {
			checkRead(t, changed)
			checkParse(t, changed)
			checkParse(t, "end\n"+changed+"\n")
			if _, err := modelRead(changed); err == api.OK {
				right++
			} else {
				wrong++
			}
		}
	}
	if right < 500 || wrong < 10000 {
		t.Errorf("%d right texts, %d wrong ones", right, wrong)
	}
}

// All rows of up to 5 words.
func TestRowsOfWords(t *testing.T) {
	words := []string{"got", "wrote", "read", "signal", "end", "ok", "fail", "-", "", "0", "17", "41"}
	row := []string{}
	var all func(more int)
	all = func(more int) {
		checkRead(t, strings.Join(row, " "))
		if more == 0 {
			return
		}
		for _, word := range words {
			row = append(row, word)
			all(more - 1)
			row = row[:len(row)-1]
		}
	}
	all(4)
	for _, first := range []string{"got ok", "was fail", "wrote ok", "read fail", "signal"} {
		row = []string{first}
		all(3)
	}
}

// All bytes' texts of up to 2 digits, of all bytes that there are.
func TestAllDigitsOfBytes(t *testing.T) {
	for high := range 256 {
		checkRead(t, "wrote ok "+string([]byte{byte(high)})+" 1")
		for low := range 256 {
			checkRead(t, "wrote ok "+string([]byte{byte(high), byte(low)})+" 1")
		}
	}
}

// All numbers of up to 3 digits, zeros ahead among them, and what an Atoi might take.
func TestAllNumbers(t *testing.T) {
	bound := 1
	for digits := range 4 {
		for n := range bound {
			text := ""
			if digits > 0 {
				text = fmt.Sprintf("%0*d", digits, n)
			}
			for _, s := range []string{text, "+" + text, "-" + text, " " + text, text + " ", "0x" + text, text + "_0"} {
				checkRead(t, "read ok "+s)
				checkRead(t, "signal "+s)
				checkRead(t, "wrote fail 41 "+s)
			}
		}
		bound *= 10
	}
}

// P7.2.

func TestFormatByHand(t *testing.T) {
	end, wrote := api.Effect{Kind: api.End}, api.Effect{Kind: api.Wrote, Data: []byte("\r\n"), N: 2, Ok: true}
	noKind, noForm := api.Effect{Kind: 7, N: -1}, api.Effect{Kind: api.End, Ok: true}
	for i, x := range []struct {
		l    []api.Effect
		text string
		err  api.Errno
	}{
		{nil, "", api.OK},
		{[]api.Effect{}, "", api.OK},
		{[]api.Effect{{}}, "got fail - 0 0\n", api.OK},
		{[]api.Effect{end}, "end\n", api.OK},
		{[]api.Effect{wrote, end, end, wrote}, "wrote ok 0d0a 2\nend\nend\nwrote ok 0d0a 2\n", api.OK},
		{[]api.Effect{noKind}, "", api.ErrKind},
		{[]api.Effect{noForm}, "", api.ErrForm},
		{[]api.Effect{end, noKind, noForm}, "", api.ErrKind},
		{[]api.Effect{end, noForm, noKind}, "", api.ErrForm},
		{[]api.Effect{end, wrote, noKind}, "", api.ErrKind},
		{[]api.Effect{noForm, end, wrote}, "", api.ErrForm},
		{[]api.Effect{{Kind: api.Read, N: -1}, {Kind: -1}}, "", api.ErrForm},
	} {
		if got, err := Format(x.l...); got != x.text || err != x.err {
			t.Errorf("%d: Format: %q, %d, want %q, %d", i, got, err, x.text, x.err)
		}
	}
	if got, err := Format(); got != "" || err != api.OK {
		t.Errorf("Format(): %q, %d", got, err)
	}
}

func TestFormatOfAllSorts(t *testing.T) {
	all := anyEffects()
	right := rightEffects()
	for i, x := range numbers(4000) {
		l := []api.Effect{}
		for range x % 5 {
			l = append(l, right[int(x>>10)%len(right)])
			x = x*6364136223846793005 + 1
		}
		checkFormat(t, l)
		checkFormat(t, append(l, all[i%len(all)], right[0]))
		checkFormat(t, append(l, all[i%len(all)], all[i*7%len(all)]))
	}
}

func TestParseByHand(t *testing.T) {
	for _, x := range []struct {
		s string
		l []api.Effect
	}{
		{"", nil},
		{"end\n", []api.Effect{{Kind: api.End}}},
		{"end\nend\nhistory\n", []api.Effect{{Kind: api.End}, {Kind: api.End}, {Kind: api.History}}},
		{"got ok echo 1 0\nwas fail - 1 0\nwrote ok 414243 2\nread ok 3\nsignal 15\n", []api.Effect{{Ok: true, Attrs: api.Attrs{Flags: 1, Min: 1}}, {Kind: api.Was, Attrs: api.Attrs{Min: 1}}, {Kind: api.Wrote, Ok: true, Data: []byte("ABC"), N: 2}, {Kind: api.Read, Ok: true, N: 3}, {Kind: api.Signal, N: 15}}},
		{"wrote fail - 0\n", []api.Effect{{Kind: api.Wrote}}},
	} {
		if l, n, err := Parse(x.s); !slices.EqualFunc(l, x.l, modelEqual) || n != len(x.l) || err != api.OK {
			t.Errorf("Parse(%q): %v, %d, %d, want %v", x.s, l, n, err, x.l)
		}
	}
}

func TestParseOfWrongTexts(t *testing.T) {
	for s, at := range map[string]int{
		// Without a byte 10 at its end, or with something behind the last one.
		"end": 0, "x": 0, " ": 0, "end\nend": 1, "end\nx": 1, "end\n ": 1, "end\n\r": 1, "end\nend\nread ok": 2, "end\nend\nread ok 1": 2, "end\nread ok 1\nsignal 1\nhistory": 3, "end\n\x00": 1,
		// Two in a row, or one ahead.
		"\n": 0, "\n\n": 0, "end\n\n": 1, "end\n\nend\n": 1, "\nend\n": 0, "end\nend\n\n": 2, "end\n\n\n": 1, "end\n\nend": 1,
		// A line that is none, the first of them told.
		"x\n": 0, "x\nend\n": 0, "end\nx\nend\n": 1, "end\nend\nx\n": 2, "x\ny\n": 0, "end\nx\ny\n": 1, "end\nx\ny": 1, "end\nread fail 05\n": 1, "end\r\n": 0, "end\nend\r\nend\n": 1, "end \nend\n": 0, "end\n end\n": 1, "read ok 1234567890123456789\n": 0, "end\nsignal 9223372036854775807\n": 1, "wrote ok 0A 1\nend\n": 0, "end\vend\n": 0, "end\u2028end\n": 0, "end\nend;end\n": 1,
	} {
		checkWrong(t, s, at)
		if _, n, err := modelParse(s); n != at || err != api.ErrForm {
			t.Errorf("the model: %q: %d, %d", s, n, err)
		}
	}
}

func TestLongTexts(t *testing.T) {
	const many = 1 << 18
	data := slices.Repeat([]byte{0, 171, 255}, many)
	line, err := Line(api.Effect{Kind: api.Wrote, Data: data, N: 1})
	if line != "wrote fail "+strings.Repeat("00abff", many)+" 1" || err != api.OK {
		t.Errorf("Line of many bytes: %d bytes, %d", len(line), err)
	}
	if e, err := Read(line); !bytes.Equal(e.Data, data) || e.N != 1 || err != api.OK {
		t.Errorf("Read of many bytes: %d bytes, %d", len(e.Data), err)
	}
	text := strings.Repeat("end\nread ok 7\n", many/2)
	l, n, err := Parse(text)
	if len(l) != many || n != many || err != api.OK {
		t.Errorf("Parse of many lines: %d, %d, %d", len(l), n, err)
	}
	if again, err := Format(l...); again != text || err != api.OK {
		t.Errorf("Format of many lines: %d bytes, %d", len(again), err)
	}
	for _, wrong := range []string{"x", "x\n", "\n", "end"} {
		checkWrong(t, text+wrong, many)
	}
	for _, part := range []string{"end", " ", "0", "9", "-", "got ok ", "wrote ok ", "\xff", "a", "echo+"} {
		row := strings.Repeat(part, many/len(part))
		for _, s := range []string{row, "end" + row, "read ok " + row, "signal " + row, "got ok " + row, "got ok " + row + " 0 0", "wrote ok 41 " + row, "wrote ok " + row + "g 1", "wrote " + row + " - 0", row + " end"} {
			checkNoLine(t, s)
			checkWrong(t, "end\n"+s+"\n", 1)
		}
	}
}

// P7.3.

func TestSameByHand(t *testing.T) {
	e := api.Effect{Kind: api.Wrote, Attrs: api.Attrs{Flags: 5, Min: 1, Time: 2}, Data: []byte("ab"), N: 2, Ok: true}
	if !Same(nil, nil) || !Same(nil, []api.Effect{}) || !Same([]api.Effect{}, nil) {
		t.Error("no effects and none aren't the same")
	}
	if Same(nil, []api.Effect{{}}) || Same([]api.Effect{{}}, nil) || Same([]api.Effect{e}, []api.Effect{e, e}) || Same([]api.Effect{e, e}, []api.Effect{e}) || Same([]api.Effect{e, e}, []api.Effect{e, e, {}}) {
		t.Error("lists of which one is longer are the same")
	}
	if !Same([]api.Effect{{Data: nil}}, []api.Effect{{Data: []byte{}}}) || !Same([]api.Effect{e, {}}, []api.Effect{e, {}}) {
		t.Error("the same aren't the same")
	}
	for i, change := range []func(e *api.Effect){
		func(e *api.Effect) { e.Kind = api.Read },
		func(e *api.Effect) { e.Kind = -1 },
		func(e *api.Effect) { e.Attrs.Flags = 4 },
		func(e *api.Effect) { e.Attrs.Flags |= 1 << 31 },
		func(e *api.Effect) { e.Attrs.Min = 0 },
		func(e *api.Effect) { e.Attrs.Time = 1 },
		func(e *api.Effect) { e.Data = []byte("aB") },
		func(e *api.Effect) { e.Data = []byte("Ab") },
		func(e *api.Effect) { e.Data = []byte("a") },
		func(e *api.Effect) { e.Data = []byte("ab\x00") },
		func(e *api.Effect) { e.Data = nil },
		func(e *api.Effect) { e.N = 3 },
		func(e *api.Effect) { e.N = -2 },
		func(e *api.Effect) { e.Ok = false },
	} {
		other := e
		change(&other)
		for at := range 3 {
			a, b := []api.Effect{e, e, e}, []api.Effect{e, e, e}
			b[at] = other
			if Same(a, b) || Same(b, a) || !Same(b, slices.Clone(b)) {
				t.Errorf("change %d, at %d", i, at)
			}
		}
	}
}

func TestSameOfAllSorts(t *testing.T) {
	all := slices.Concat(anyEffects(), rightEffects())
	rule := numbers(len(all))
	for i, e := range all {
		for _, other := range []api.Effect{e, all[rule[i]%uint64(len(all))], all[(i+1)%len(all)]} {
			if got := Same([]api.Effect{e}, []api.Effect{other}); got != modelEqual(e, other) {
				t.Errorf("Same of %v and %v: %v", e, other, got)
			}
		}
	}
	if !Same(all, slices.Clone(all)) || Same(all, all[1:]) || Same(all, all[:len(all)-1]) {
		t.Error("Same of all")
	}
}

func TestWrittenByHand(t *testing.T) {
	wrote := func(data string, n int) api.Effect {
		return api.Effect{Kind: api.Wrote, Data: []byte(data), N: n, Ok: n > 1}
	}
	for i, x := range []struct {
		l    []api.Effect
		want string
	}{
		{nil, ""},
		{[]api.Effect{{}}, ""},
		{[]api.Effect{wrote("abc", 3)}, "abc"},
		{[]api.Effect{wrote("abc", 2)}, "ab"},
		{[]api.Effect{wrote("abc", 1)}, "a"},
		{[]api.Effect{wrote("abc", 0)}, ""},
		{[]api.Effect{wrote("abc", -1)}, ""},
		{[]api.Effect{wrote("abc", -3)}, ""},
		{[]api.Effect{wrote("abc", math.MinInt)}, ""},
		{[]api.Effect{wrote("abc", 4)}, "abc"},
		{[]api.Effect{wrote("abc", math.MaxInt)}, "abc"},
		{[]api.Effect{wrote("", 0)}, ""},
		{[]api.Effect{wrote("", 9)}, ""},
		{[]api.Effect{wrote("", -9)}, ""},
		{[]api.Effect{wrote("abc", 2), wrote("de", 0), wrote("fg", 7), wrote("hi", -7), wrote("j", 1)}, "abfgj"},
		{[]api.Effect{{Kind: api.Got, Data: []byte("a"), N: 1}, {Kind: api.Was, Data: []byte("b"), N: 1}, {Kind: api.Read, Data: []byte("c"), N: 1}, {Kind: api.Signal, Data: []byte("d"), N: 1}, {Kind: api.End, Data: []byte("e"), N: 1}, {Kind: api.History, Data: []byte("f"), N: 1}, {Kind: 7, Data: []byte("g"), N: 1}, {Kind: -1, Data: []byte("h"), N: 1}, wrote("i", 1)}, "i"},
		{[]api.Effect{{Kind: api.Wrote, Data: []byte("xy"), N: 1}, {Kind: api.Wrote, Data: []byte("xy"), N: 1, Ok: true, Attrs: api.Attrs{Min: 1}}}, "xx"},
	} {
		if got := Written(x.l...); string(got) != x.want {
			t.Errorf("%d: Written: %q, want %q", i, got, x.want)
		}
	}
	if got := Written(); len(got) != 0 {
		t.Errorf("Written(): %q", got)
	}
}

func TestWrittenOfAllSorts(t *testing.T) {
	all := slices.Concat(anyEffects(), rightEffects())
	if !bytes.Equal(Written(all...), modelWritten(all)) {
		t.Error("Written of all")
	}
	for _, e := range all {
		if got := Written(e); !bytes.Equal(got, modelWritten([]api.Effect{e})) {
			t.Errorf("Written(%v): %v", e, got)
		}
	}
	for n := -2; n <= 258; n++ {
		e := api.Effect{Kind: api.Wrote, Data: allBytes(), N: n}
		if got := Written(e, e); !bytes.Equal(got, modelWritten([]api.Effect{e, e})) {
			t.Errorf("Written of %d: %v", n, got)
		}
	}
}

// P7.4.

func TestEffectsThereAndBack(t *testing.T) {
	all := rightEffects()
	for _, e := range all {
		line, err := Line(e)
		if err != api.OK || strings.Contains(line, "\n") {
			t.Errorf("Line(%v): %q, %d", e, line, err)
		}
		if got, err := Read(line); !modelEqual(got, e) || err != api.OK || !Same([]api.Effect{got}, []api.Effect{e}) {
			t.Errorf("Read(%q): %v, %d, want %v", line, got, err, e)
		}
	}
	for i := 0; i < len(all); i += 16 {
		for _, l := range [][]api.Effect{all[:i], all[i:], all[i : i+1]} {
			text, err := Format(l...)
			if err != api.OK || strings.Count(text, "\n") != len(l) {
				t.Fatalf("Format of %d: %d", len(l), err)
			}
			got, n, err := Parse(text)
			if !Same(got, l) || n != len(l) || err != api.OK {
				t.Fatalf("Parse(%.200q): %d, %d", text, n, err)
			}
		}
	}
}

func TestTextsThereAndBack(t *testing.T) {
	lines := []string{"got ok - 0 0", "got fail echo+x80 25 1", "was ok canon+post 4 10", "was fail - 1 0", "wrote ok - 0", "wrote fail 0d0a 2", "wrote ok 2d 7", "read ok 0", "read fail 64", "signal 0", "signal 15", "end", "history", "x", "", "end ", "read fail 05"}
	for _, x := range numbers(5000) {
		s := ""
		for range x % 7 {
			s += lines[int(x>>20)%len(lines)] + "\n"
			x = x*6364136223846793005 + 1442695040888963407
		}
		checkParse(t, s)
		checkParse(t, strings.TrimSuffix(s, "\n"))
	}
}

// Each effect's line is its own alone.
func TestEachLineIsOnesAlone(t *testing.T) {
	lines := map[string]api.Effect{}
	for _, e := range slices.Concat(rightEffects(), anyEffects()) {
		line, err := Line(e)
		if err != api.OK {
			continue
		}
		if other, ok := lines[line]; ok && !modelEqual(other, e) {
			t.Errorf("%q is the line of %v and of %v", line, other, e)
		}
		lines[line] = e
	}
}

// Lists that are handed in, or told, and changed behind it.

func TestListsThatAreHandedIn(t *testing.T) {
	room := slices.Repeat([]byte{9}, 8)
	l := make([]api.Effect, 0, 4)
	l = append(l, api.Effect{Kind: api.Wrote, Data: append(room[:0], "abc"...), N: 5, Ok: true}, api.Effect{Kind: api.End})
	l[:3][2] = api.Effect{Kind: -9, N: 77}
	text, err := Format(l...)
	if text != "wrote ok 616263 5\nend\n" || err != api.OK {
		t.Errorf("Format: %q, %d", text, err)
	}
	got := Written(l...)
	if string(got) != "abc" || !Same(l, l) {
		t.Errorf("Written: %q", got)
	}
	if string(room) != "abc\x09\x09\x09\x09\x09" || l[:3][2].N != 77 || l[0].N != 5 || !l[0].Ok || len(l[0].Data) != 3 || l[1].Kind != api.End {
		t.Errorf("what was handed in is changed: %v, %v", room, l[:3])
	}
	room[0] = 'x'
	l[1].Kind = api.History
	if string(got) != "abc" || text != "wrote ok 616263 5\nend\n" {
		t.Errorf("what was told is changed: %q, %q", got, text)
	}
	got[1] = 'y'
	_ = append(got, "zzzz"...)
	if string(room) != "xbc\x09\x09\x09\x09\x09" {
		t.Errorf("what was handed in is changed by what was told: %v", room)
	}
	if again := Written(l...); string(again) != "xbc" {
		t.Errorf("Written again: %q", again)
	}
}

func TestListsThatAreTold(t *testing.T) {
	const text = "wrote ok 6162 2\nwrote ok 6162 2\nread ok 1\nwrote ok 6364 1\n"
	first, _, _ := Parse(text)
	second, _, _ := Parse(text)
	first[0].Data[0] = 'x'
	_ = append(first[0].Data, "yyyyyyyyyyyyyyyy"...)
	_ = append(first[1].Data[:1], 'z')
	first[2] = api.Effect{Kind: -1}
	if string(first[1].Data) != "az" || string(first[3].Data) != "cd" {
		t.Errorf("two lists of one answer share: %v", first)
	}
	if again, err := Format(second...); again != text || err != api.OK {
		t.Errorf("another answer is changed: %q", again)
	}
	checkParse(t, text)
	a, _ := Read("wrote ok 6162 2")
	b, _ := Read("wrote ok 6162 2")
	a.Data[1] = 'x'
	if string(b.Data) != "ab" {
		t.Errorf("Read: %q", b.Data)
	}
	written := Written(second...)
	written[0] = 'x'
	if string(Written(second...)) != "ababc" || string(second[0].Data) != "ab" {
		t.Errorf("Written shares with what was handed in: %v", second)
	}
	for _, e := range first[:cap(first)][len(first):] {
		if !modelEqual(e, api.Effect{}) {
			t.Errorf("%v lies behind the list", e)
		}
	}
}

// A list that is no effects' leaves nothing for the next call.
func TestWhatARefusedCallLeaves(t *testing.T) {
	for range 3 {
		if s, err := Format(api.Effect{Kind: api.End}, api.Effect{Kind: 9}); s != "" || err != api.ErrKind {
			t.Errorf("Format: %q, %d", s, err)
		}
		checkWrong(t, "end\nwrote ok 41 1\nx\n", 2)
		checkNoLine(t, "wrote ok 41 x")
		checkParse(t, "end\n")
		checkFormat(t, []api.Effect{{Kind: api.End}})
	}
}

// What is answered hangs on nothing that was asked ahead, nor on who asks beside.
func TestManyGoroutines(t *testing.T) {
	all := rightEffects()
	var wait sync.WaitGroup
	for g := range 8 {
		wait.Go(func() {
			for i := range 400 {
				from := (i*13 + g*100) % len(all)
				l := all[from:min(from+5, len(all))]
				checkFormat(t, l)
				text, _ := modelFormat(l)
				checkParse(t, text)
				checkParse(t, text+"x")
				checkRead(t, strings.TrimSpace(text))
				if !bytes.Equal(Written(l...), modelWritten(l)) || !Same(l, slices.Clone(l)) {
					t.Errorf("%v", l)
				}
			}
		})
	}
	wait.Wait()
}

// fuzzEffect takes an effect off the bytes: nearly each field is often 0.
func fuzzEffect(b []byte) (api.Effect, []byte) {
	e := api.Effect{Kind: int(int8(b[0]<<4)) >> 4, Ok: b[1]&1 != 0}
	if b[1]&2 != 0 {
		e.N = int(int8(b[2]))
	}
	if b[1]&4 != 0 {
		e.N <<= b[3] % 64
	}
	if b[1]&8 != 0 {
		e.Attrs = api.Attrs{Flags: uint32(b[4]) << (b[1] >> 5), Min: b[5], Time: b[6]}
	}
	rest := b[8:]
	if n := min(int(b[7]), len(rest)); b[1]&16 != 0 {
		e.Data, rest = rest[:n], rest[n:]
	}
	return e, rest
}

// The bytes are a text, a line, and effects.
func FuzzAgainstModel(f *testing.F) {
	for _, e := range rightEffects() {
		line, _ := modelLine(e)
		f.Add([]byte(line))
		f.Add([]byte(line + "\n"))
	}
	for _, s := range []string{"", "\n", "end\n\n", "end\nend", "read fail 05\n", "\x02\x13\x02\x00\x00\x00\x00\x02ab\x05\x00\x00\x00\x00\x00\x00\x00"} {
		f.Add([]byte(s))
	}
	f.Fuzz(func(t *testing.T, b []byte) {
		s := string(b)
		checkRead(t, s)
		checkParse(t, s)
		checkParse(t, s+"\n")
		var l []api.Effect
		for rest := b; len(rest) >= 8; {
			var e api.Effect
			e, rest = fuzzEffect(rest)
			checkLine(t, e)
			l = append(l, e)
		}
		checkFormat(t, l)
		if !bytes.Equal(Written(l...), modelWritten(l)) {
			t.Errorf("Written(%v): %v", l, Written(l...))
		}
		for i := range len(l) / 2 {
			a, x := l[:i+1], l[i:2*i+1]
			if Same(a, x) != slices.EqualFunc(a, x, modelEqual) {
				t.Errorf("Same(%v, %v)", a, x)
			}
		}
		if s != string(b) {
			t.Error("what was handed in is changed")
		}
	})
}
