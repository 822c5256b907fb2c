package registry

import (
	"bytes"
	"math"
	"reflect"
	"slices"
	"strconv"
	"strings"
	"sync"
	"testing"

	"whisperer/api"
	"whisperer/arena"
)

// The model: a list of what was made, each with its name, its arena, how many cells it has, and its bytes. All cells that aren't a byte's are 0.

type made struct {
	name  string
	a     *arena.Arena
	cells int
	bytes []byte
}

type model []*made

func (m model) find(name string) *made {
	for _, e := range m {
		if e.name == name {
			return e
		}
	}
	return nil
}

func (m model) names() []string {
	var l []string
	for _, e := range m {
		l = append(l, e.name)
	}
	return l
}

func (m model) cells() int {
	sum := 0
	for _, e := range m {
		sum += e.cells
	}
	return sum
}

func (m model) zero() bool {
	for _, e := range m {
		if bytes.Count(e.bytes, []byte{0}) != len(e.bytes) {
			return false
		}
	}
	return true
}

// refuses is the error of a Make.
func (m model) refuses(name string, n int) api.Errno {
	if len(name) == 0 {
		return api.ErrArg
	}
	if m.find(name) != nil {
		return api.ErrState
	}
	if len(m) == 16 {
		return api.ErrFull
	}
	if n < 1 || 4096 < n {
		return api.ErrRange
	}
	return api.OK
}

// both are a registry and its model; each call is made of the two, must answer the same, and must leave the same.
type both struct {
	t *testing.T
	r *Registry
	m model
}

func newBoth(t *testing.T) *both {
	t.Helper()
	r := New()
	if r == nil {
		t.Fatal("New made none")
	}
	b := &both{t: t, r: r}
	b.same("New")
	return b
}

// bothOf are with arenas of 5 cells, under these names.
func bothOf(t *testing.T, names ...string) *both {
	t.Helper()
	b := newBoth(t)
	for _, name := range names {
		if err := b.make(name, 5); err != api.OK {
			t.Fatalf("Make(%q, 5): %d", name, err)
		}
	}
	return b
}

func (b *both) make(name string, n int) api.Errno {
	b.t.Helper()
	want := b.m.refuses(name, n)
	a, err := b.r.Make(name, n)
	if err != want || (a != nil) != (err == api.OK) {
		b.t.Fatalf("Make(%q, %d): %v, %d, want %d", name, n, a, err, want)
	}
	if err == api.OK {
		for _, e := range b.m {
			if e.a == a {
				b.t.Fatalf("Make(%q, %d): it is that of %q", name, n, e.name)
			}
		}
		b.m = append(b.m, &made{name: name, a: a, cells: n})
	}
	b.same("Make")
	return err
}

func (b *both) get(name string) *arena.Arena {
	b.t.Helper()
	var want *arena.Arena
	wantErr := api.ErrNone
	if e := b.m.find(name); e != nil {
		want, wantErr = e.a, api.OK
	}
	got, err := b.r.Get(name)
	if got != want || err != wantErr {
		b.t.Fatalf("Get(%q): %p, %d, want %p, %d", name, got, err, want, wantErr)
	}
	return got
}

func (b *both) wipe() {
	b.t.Helper()
	b.r.Wipe()
	for _, e := range b.m {
		e.bytes = nil
	}
	b.same("Wipe")
	if !b.r.Zero() || !b.r.Clean() {
		b.t.Fatalf("behind a Wipe: Zero %v, Clean %v", b.r.Zero(), b.r.Clean())
	}
}

// insert is done by who made the arena.
func (b *both) insert(name string, l ...byte) {
	b.t.Helper()
	e := b.m.find(name)
	if e == nil {
		return
	}
	if e.a.Insert(0, l...) == api.OK {
		e.bytes = slices.Concat(l, e.bytes)
	}
	b.same("Insert")
}

// fill lays bytes into all cells of an arena, by who got it.
func (b *both) fill(name string, c byte) {
	b.t.Helper()
	a := b.get(name)
	if a == nil {
		return
	}
	e := b.m.find(name)
	more := bytes.Repeat([]byte{c}, e.cells-len(e.bytes))
	if err := a.Insert(a.Len(), more...); err != api.OK {
		b.t.Fatalf("Insert of %d: %d", len(more), err)
	}
	e.bytes = slices.Concat(e.bytes, more)
	b.same("Insert")
}

// drop takes the first bytes of an arena away, by who got it.
func (b *both) drop(name string, n int) {
	b.t.Helper()
	a := b.get(name)
	if a == nil {
		return
	}
	if e := b.m.find(name); a.Delete(0, n) == api.OK {
		e.bytes = slices.Clone(e.bytes[n:])
	}
	b.same("Delete")
}

// same asks all that a registry tells, and looks at each cell of each arena.
func (b *both) same(call string) {
	b.t.Helper()
	if got := b.r.Names(); !slices.Equal(got, b.m.names()) {
		b.t.Fatalf("behind %s: Names %q, want %q", call, got, b.m.names())
	}
	if got := b.r.Cells(); got != b.m.cells() {
		b.t.Fatalf("behind %s: Cells %d, want %d", call, got, b.m.cells())
	}
	if b.r.Zero() != b.m.zero() || !b.r.Clean() {
		b.t.Fatalf("behind %s: Zero %v, Clean %v, want %v, true", call, b.r.Zero(), b.r.Clean(), b.m.zero())
	}
	for _, e := range b.m {
		b.get(e.name)
		b.holds(call, e)
	}
	b.get("")
	b.get("a name that isn't there")
}

// holds looks at each cell of one arena.
func (b *both) holds(call string, e *made) {
	b.t.Helper()
	if e.a.Len() != len(e.bytes) || e.a.Cap() != e.cells {
		b.t.Fatalf("behind %s: %q: Len %d, Cap %d, want %d, %d", call, e.name, e.a.Len(), e.a.Cap(), len(e.bytes), e.cells)
	}
	for i := range e.cells {
		want := byte(0)
		if i < len(e.bytes) {
			want = e.bytes[i]
		}
		if got, err := e.a.Cell(i); got != want || err != api.OK {
			b.t.Fatalf("behind %s: %q: Cell(%d): %d, %d, want %d", call, e.name, i, got, err, want)
		}
	}
}

// far are counts of cells that no arena has, the least and the greatest among them.
func far() []int {
	return []int{math.MinInt, math.MinInt + 1, math.MinInt32, -4096, -1, 0, 4097, 4098, 1 << 16, math.MaxInt32, 1<<32 + 1, math.MaxInt - 1, math.MaxInt}
}

// sixteen are as many names as a registry has room for, not in the order of their texts.
func sixteen() []string {
	return strings.Fields("p c x a o b n d m e l f k g j h")
}

// numbers are n of 64 bits, of all sorts, by a rule.
func numbers(n int) []uint64 {
	l := make([]uint64, n)
	x := uint64(1)
	for i := range l {
		x = x*6364136223846793005 + 1442695040888963407
		l[i] = x ^ x>>29
	}
	return l
}

func TestExample(t *testing.T) {
	r := New()
	a, err := r.Make("a", 5)
	if a == nil || err != api.OK || a.Cap() != 5 || a.Len() != 0 {
		t.Errorf("Make of a: %v, %d", a, err)
	}
	b, err := r.Make("b", 3)
	if b == nil || err != api.OK || b.Cap() != 3 || b == a {
		t.Errorf("Make of b: %v, %d", b, err)
	}
	if n := r.Cells(); n != 8 {
		t.Errorf("Cells: %d", n)
	}
	if l := r.Names(); !slices.Equal(l, []string{"a", "b"}) {
		t.Errorf("Names: %q", l)
	}
	if again, err := r.Make("a", 5); again != nil || err != api.ErrState {
		t.Errorf("Make of a again: %v, %d", again, err)
	}
}

func TestNil(t *testing.T) {
	var r *Registry
	for _, name := range []string{"", "a", "edit", "\xff\x00"} {
		for _, n := range slices.Concat(far(), []int{1, 5, 4096}) {
			if a, err := r.Make(name, n); a != nil || err != api.ErrNil {
				t.Errorf("Make(%q, %d): %v, %d", name, n, a, err)
			}
		}
		if a, err := r.Get(name); a != nil || err != api.ErrNil {
			t.Errorf("Get(%q): %v, %d", name, a, err)
		}
	}
	r.Wipe()
	if l := r.Names(); len(l) != 0 {
		t.Errorf("Names: %q", l)
	}
	if !r.Zero() || !r.Clean() || r.Cells() != 0 {
		t.Errorf("Zero %v, Clean %v, Cells %d", r.Zero(), r.Clean(), r.Cells())
	}
}

func TestWithoutArenas(t *testing.T) {
	r := New()
	for range 2 {
		if l := r.Names(); len(l) != 0 {
			t.Errorf("Names: %q", l)
		}
		if !r.Zero() || !r.Clean() || r.Cells() != 0 {
			t.Errorf("Zero %v, Clean %v, Cells %d", r.Zero(), r.Clean(), r.Cells())
		}
		for _, name := range []string{"", "a"} {
			if a, err := r.Get(name); a != nil || err != api.ErrNone {
				t.Errorf("Get(%q): %v, %d", name, a, err)
			}
		}
		r.Wipe()
	}
	if a, err := r.Make("a", 1); a == nil || err != api.OK {
		t.Errorf("Make behind a Wipe: %v, %d", a, err)
	}
}

func TestMakeOfTheEmptyName(t *testing.T) {
	b := newBoth(t)
	for _, n := range slices.Concat(far(), []int{1, 5, 4096}) {
		if err := b.make("", n); err != api.ErrArg {
			t.Errorf("Make of the empty name, %d cells: %d", n, err)
		}
	}
	if b.make(" ", 5) != api.OK || b.make("\x00", 5) != api.OK {
		t.Error("a name of one byte is taken for the empty one")
	}
	if err := b.make("", 5); err != api.ErrArg {
		t.Errorf("Make of the empty name, with arenas there: %d", err)
	}
}

func TestMakeOfANameThatThereIs(t *testing.T) {
	b := bothOf(t, "a", "b", "c")
	b.insert("b", 1, 2, 3)
	for _, name := range []string{"a", "b", "c"} {
		for _, n := range []int{5, 1, 4096, 0, 4097} {
			if err := b.make(name, n); err != api.ErrState {
				t.Errorf("Make(%q, %d) again: %d", name, n, err)
			}
		}
	}
	b.wipe()
	if err := b.make("b", 5); err != api.ErrState {
		t.Errorf("Make(b, 5) behind a Wipe: %d", err)
	}
}

func TestMakeOfCells(t *testing.T) {
	b := newBoth(t)
	for _, n := range far() {
		if err := b.make("a", n); err != api.ErrRange {
			t.Errorf("Make(a, %d): %d", n, err)
		}
	}
	for _, n := range []int{1, 2, 4095, 4096} {
		name := strconv.Itoa(n)
		if err := b.make(name, n); err != api.OK {
			t.Errorf("Make(%q, %d): %d", name, n, err)
		}
		b.fill(name, 7)
		if a := b.get(name); a.Len() != n || a.Insert(0, 7) != api.ErrFull {
			t.Errorf("Make(%q, %d): there are others", name, n)
		}
	}
	if err := b.make("a", 1); err != api.OK {
		t.Errorf("Make(a, 1), that was refused for its cells: %d", err)
	}
}

func TestMakeUpToMaxArenas(t *testing.T) {
	b := newBoth(t)
	for i, name := range sixteen() {
		if err := b.make(name, 4096-i); err != api.OK {
			t.Errorf("the arena %d: %d", i, err)
		}
	}
	if len(b.r.Names()) != api.MaxArenas {
		t.Errorf("%d names", len(b.r.Names()))
	}
	for _, name := range []string{"q", "z", "\xff"} {
		if err := b.make(name, 1); err != api.ErrFull {
			t.Errorf("one more, %q: %d", name, err)
		}
	}
	b.fill("h", 9)
	b.wipe()
	if err := b.make("z", 1); err != api.ErrFull {
		t.Errorf("one more, behind a Wipe: %d", err)
	}
}

// All arenas of all cells there may be.
func TestTheGreatest(t *testing.T) {
	b := newBoth(t)
	for _, name := range sixteen() {
		b.make(name, 4096)
	}
	if n := b.r.Cells(); n != 65536 {
		t.Errorf("Cells: %d", n)
	}
	for i, name := range sixteen() {
		b.fill(name, byte(i+1))
	}
	b.wipe()
	if n := b.r.Cells(); n != 65536 {
		t.Errorf("Cells behind a Wipe: %d", n)
	}
}

// The empty name, then one that there is, then no room, then the cells.
func TestWhichErrorGoesAhead(t *testing.T) {
	few, full := bothOf(t, "a", "b"), bothOf(t, sixteen()...)
	for _, c := range []struct {
		b    *both
		what string
		name string
		n    int
		want api.Errno
	}{
		{full, "empty, no room, no cells", "", 0, api.ErrArg},
		{full, "empty, no room", "", 5, api.ErrArg},
		{few, "empty, too many cells", "", 4097, api.ErrArg},
		{few, "empty", "", 5, api.ErrArg},
		{full, "there already, no room, no cells", "a", 0, api.ErrState},
		{full, "there already, no room", "a", 5, api.ErrState},
		{few, "there already, fewer than no cells", "a", -1, api.ErrState},
		{few, "there already", "a", 5, api.ErrState},
		{full, "no room, no cells", "z", 0, api.ErrFull},
		{full, "no room, too many cells", "z", 4097, api.ErrFull},
		{full, "no room", "z", 5, api.ErrFull},
		{few, "no cells", "z", 0, api.ErrRange},
		{few, "too many cells", "z", 4097, api.ErrRange},
	} {
		if err := c.b.make(c.name, c.n); err != c.want {
			t.Errorf("%s: %d, want %d", c.what, err, c.want)
		}
	}
}

// What was refused takes no name and no room.
func TestMakeRefusedLeavesNothing(t *testing.T) {
	b := bothOf(t, "a")
	b.insert("a", 1, 2)
	for i := range 40 {
		b.make("", i)
		b.make("a", i)
		b.make(strconv.Itoa(i), 0)
		b.make("b", -i)
	}
	for _, name := range sixteen() {
		b.make(name, 2)
	}
	b.make("z", 2)
	if !slices.Equal(b.r.Names(), strings.Fields("a p c x o b n d m e l f k g j h")) {
		t.Errorf("Names: %q", b.r.Names())
	}
}

func TestGet(t *testing.T) {
	b := newBoth(t)
	if b.get("a") != nil {
		t.Error("there is one under a, ahead of its Make")
	}
	b.make("a", 5)
	b.make("ab", 5)
	first, second := b.get("a"), b.get("ab")
	if first == nil || second == nil || first == second {
		t.Error("not the two that were made")
	}
	for _, name := range []string{"", "b", "A", "a ", " a", "aa", "abc", "a\x00", "ba"} {
		if a, err := b.r.Get(name); a != nil || err != api.ErrNone {
			t.Errorf("Get(%q): %v, %d", name, a, err)
		}
	}
	b.make("c", 5)
	b.wipe()
	if b.get("a") != first || b.get("ab") != second {
		t.Error("others, behind a Wipe")
	}
}

// A Get makes none.
func TestGetLeavesNothing(t *testing.T) {
	b := bothOf(t, "a")
	for _, name := range append(sixteen(), "", "z") {
		b.get(name)
		b.same("Get")
	}
	if b.make("z", 3) != api.OK || b.make("p", 3) != api.OK {
		t.Error("a name that was asked for is taken")
	}
}

// A name may be any bytes; those that are not just the same are others.
func TestNamesOfAllSorts(t *testing.T) {
	names := []string{"\xff", "\xfe", "\xef\xbf\xbd", "é", "e\u0301", " ", "  ", "\n", "\x00", "\x00\x00", "A", "a", strings.Repeat("a", 100000), strings.Repeat("a", 99999), "nil", "-"}
	b := newBoth(t)
	for i, name := range names {
		if err := b.make(name, i+1); err != api.OK {
			t.Errorf("the name %d: %d", i, err)
		}
	}
	for i, name := range names {
		if a := b.get(name); a.Cap() != i+1 {
			t.Errorf("the name %d has the arena of another one", i)
		}
	}
}

// In the order in which they were made, whatever the order of their texts, and the same each time.
func TestNamesInTheirOrder(t *testing.T) {
	for _, l := range [][]string{
		sixteen(),
		strings.Fields("a b c d e f g h i j k l m n o p"),
		strings.Fields("p o n m l k j i h g f e d c b a"),
		strings.Fields("10 9 8 1 2 11"),
		strings.Fields("edit paste keys read"),
		{"b", "a"},
	} {
		b := bothOf(t, l...)
		for range 20 {
			if got := b.r.Names(); !slices.Equal(got, l) {
				t.Errorf("Names: %q, want %q", got, l)
			}
		}
	}
}

func TestNamesIsTheCallers(t *testing.T) {
	b := bothOf(t, "b", "a", "c")
	l := b.r.Names()
	l[0], l[1] = "x", "y"
	b.same("a change of the list")
	slices.Reverse(b.r.Names())
	b.same("a turn of the list")
	_ = append(b.r.Names(), "x")
	_ = append(b.r.Names()[:1], "x", "y", "z", "w")
	b.same("more in the list")
	if b.make("x", 5) != api.OK || b.make("d", 5) != api.OK {
		t.Error("a name that was laid into a list of the caller's is taken")
	}
	if !slices.Equal(l, []string{"x", "y", "c"}) {
		t.Errorf("the list that was told is now %q", l)
	}
	one, two := b.r.Names(), b.r.Names()
	one[0] = "q"
	if two[0] != "b" {
		t.Error("two lists share")
	}
}

// What lies behind the length of a list that was told is not handed out, nor is what comes later laid there.
func TestNamesHasNothingBehind(t *testing.T) {
	b := newBoth(t)
	var told [][]string
	for i, name := range sixteen() {
		l := b.r.Names()
		if len(l) != i {
			t.Fatalf("%d names, want %d", len(l), i)
		}
		told = append(told, l[:cap(l)])
		b.make(name, 1)
	}
	for i, l := range told {
		for j, name := range l {
			if j < i && name != sixteen()[j] || j >= i && name != "" {
				t.Errorf("the list %d has %q at %d", i, name, j)
			}
		}
	}
}

func TestCells(t *testing.T) {
	b := newBoth(t)
	for _, c := range []struct {
		name string
		n    int
		want int
	}{{"a", 1, 1}, {"b", 4096, 4097}, {"", 7, 4097}, {"a", 7, 4097}, {"c", 0, 4097}, {"c", 36, 4133}, {"d", 64, 4197}} {
		b.make(c.name, c.n)
		if n := b.r.Cells(); n != c.want {
			t.Errorf("behind Make(%q, %d): %d, want %d", c.name, c.n, n, c.want)
		}
	}
	b.fill("d", 3)
	b.wipe()
	if n := b.r.Cells(); n != 4197 {
		t.Errorf("behind a Wipe: %d", n)
	}
}

// Cells that were filled, of each arena, are 0 behind a Wipe, and may be filled again.
func TestWipe(t *testing.T) {
	b := newBoth(t)
	for i, name := range sixteen() {
		b.make(name, 3*i+1)
	}
	for turn := range 3 {
		for i, name := range sixteen() {
			b.fill(name, byte(100*turn+i+1))
		}
		if b.r.Zero() || !b.r.Clean() {
			t.Errorf("filled: Zero %v, Clean %v", b.r.Zero(), b.r.Clean())
		}
		b.wipe()
		b.wipe()
		for _, name := range sixteen() {
			if a := b.get(name); a.Len() != 0 || !a.Zero() {
				t.Errorf("%q: Len %d, Zero %v", name, a.Len(), a.Zero())
			}
		}
	}
}

// A Wipe takes bytes away that are 0, too.
func TestWipeOfBytesThatAreZero(t *testing.T) {
	b := bothOf(t, "a", "b")
	b.insert("b", 0, 0)
	if !b.r.Zero() || b.get("b").Len() != 2 {
		t.Errorf("Zero %v, Len %d", b.r.Zero(), b.get("b").Len())
	}
	b.wipe()
	if b.get("b").Len() != 0 {
		t.Errorf("behind a Wipe: Len %d", b.get("b").Len())
	}
}

// Zero sees the one arena of which a cell isn't 0, wherever it stands among the others.
func TestZeroSeesEachArena(t *testing.T) {
	for used := 1; used <= 16; used++ {
		for _, name := range sixteen()[:used] {
			b := bothOf(t, sixteen()[:used]...)
			b.insert(name, 0, 0, 0, 0, 1)
			if b.r.Zero() || !b.r.Clean() {
				t.Errorf("of %d, a cell of %q: Zero %v, Clean %v", used, name, b.r.Zero(), b.r.Clean())
			}
			b.drop(name, 5)
			if !b.r.Zero() {
				t.Errorf("of %d, no cell of %q: Zero %v", used, name, b.r.Zero())
			}
		}
	}
}

// No call leaves a cell behind the bytes that isn't 0; so that Clean is worth asking, it must see one that is laid there past all calls, in each arena.
func TestCleanSeesEachArena(t *testing.T) {
	for used := 1; used <= 16; used++ {
		for _, name := range sixteen()[:used] {
			b := bothOf(t, sixteen()[:used]...)
			b.insert(name, 0, 0)
			cells(t, b.get(name))[4] = 1
			if b.r.Clean() || b.r.Zero() {
				t.Errorf("of %d, a cell of %q: Clean %v, Zero %v", used, name, b.r.Clean(), b.r.Zero())
			}
			b.wipe()
		}
	}
}

// cells are an arena's own, as no call hands them out.
func cells(t *testing.T, a *arena.Arena) []byte {
	t.Helper()
	field := reflect.ValueOf(a).Elem().FieldByName("cells")
	if !field.IsValid() || field.Len() != a.Cap() {
		t.Fatal("an arena keeps its cells elsewhere")
	}
	return field.Bytes()
}

// Who made an arena, who got it, and the registry have the same one.
func TestTheSameArena(t *testing.T) {
	r := New()
	mine, _ := r.Make("a", 5)
	theirs, _ := r.Get("a")
	if mine != theirs {
		t.Fatal("there are two")
	}
	mine.Insert(0, 1, 2, 3)
	if c, err := theirs.At(2); c != 3 || err != api.OK || r.Zero() {
		t.Errorf("what its maker laid: %d, %d, Zero %v", c, err, r.Zero())
	}
	theirs.Delete(0, 1)
	theirs.Insert(2, 9)
	if c, err := mine.At(2); c != 9 || err != api.OK || mine.Len() != 3 {
		t.Errorf("what was laid by who got it: %d, %d, Len %d", c, err, mine.Len())
	}
	r.Wipe()
	for i := range 5 {
		one, _ := mine.Cell(i)
		two, _ := theirs.Cell(i)
		if one != 0 || two != 0 {
			t.Errorf("behind a Wipe: the cell %d: %d, %d", i, one, two)
		}
	}
	mine.Insert(0, 4)
	mine.Wipe()
	if !r.Zero() || theirs.Len() != 0 {
		t.Errorf("behind an arena's Wipe: Zero %v, Len %d", r.Zero(), theirs.Len())
	}
}

// One arena's Wipe leaves the others.
func TestAnArenasWipe(t *testing.T) {
	b := bothOf(t, "a", "b", "c")
	for _, name := range []string{"a", "b", "c"} {
		b.fill(name, 6)
	}
	b.get("b").Wipe()
	b.m.find("b").bytes = nil
	b.same("an arena's Wipe")
	if b.r.Zero() {
		t.Error("Zero, with bytes in two")
	}
}

// steps are what may be done in turns; each takes a number for what it lays.
func steps() []func(b *both, n int) {
	return []func(b *both, n int){
		func(b *both, n int) { b.make("b", 3) },
		func(b *both, n int) { b.make("a", n+1) },
		func(b *both, n int) { b.make("c", 0) },
		func(b *both, n int) { b.insert("a", byte(n+1)) },
		func(b *both, n int) { b.fill("b", byte(n)) },
		func(b *both, n int) { b.drop("b", 1) },
		func(b *both, n int) { b.wipe() },
	}
}

// All calls in turns, each row of up to 5 of them, each cell of each arena looked at behind each call.
func TestTurns(t *testing.T) {
	all := steps()
	rows := 1
	for length := range 6 {
		for row := range rows {
			b := newBoth(t)
			for i, rest := 0, row; i < length; i, rest = i+1, rest/len(all) {
				all[rest%len(all)](b, i)
			}
		}
		rows *= len(all)
	}
}

// made, filled, wiped, filled again, one more made, wiped.
func TestTurnsThatAreNamed(t *testing.T) {
	b := bothOf(t, "b", "a")
	b.fill("a", 1)
	b.fill("b", 2)
	b.wipe()
	b.fill("b", 3)
	b.make("c", 7)
	b.insert("c", 4, 5)
	b.wipe()
	b.fill("c", 6)
	if b.r.Zero() || b.r.Cells() != 17 {
		t.Errorf("Zero %v, Cells %d", b.r.Zero(), b.r.Cells())
	}
	b.wipe()
}

// turn makes one call, by a number, of a name and a count.
func turn(b *both, call byte, name string, n int) {
	switch call & 7 {
	case 0, 1, 2:
		b.make(name, n)
	case 3, 4:
		b.insert(name, bytes.Repeat([]byte{call}, n&7)...)
	case 5:
		b.fill(name, byte(n))
	case 6:
		b.drop(name, n)
	default:
		b.wipe()
	}
}

func TestManyTurns(t *testing.T) {
	for start := range 40 {
		b := newBoth(t)
		for _, x := range numbers(150 + start)[start:] {
			name := strings.Repeat("n", int(x>>8)&15) + strings.Repeat("m", int(x>>16)&1)
			turn(b, byte(x), name, int(x>>24)&63-2)
		}
	}
}

// Two that were made apart, with the same names, have nothing to do with one another.
func TestTwoRegistriesAreApart(t *testing.T) {
	x, y := newBoth(t), newBoth(t)
	if x.r == y.r {
		t.Fatal("New made none of its own")
	}
	for i, name := range sixteen() {
		x.make(name, 4)
		y.same("another registry's Make")
		if y.get(name) != nil {
			t.Errorf("%q is there, as another registry has it", name)
		}
		y.make(name, i+1)
		if x.get(name) == y.get(name) {
			t.Errorf("%q: both have the same", name)
		}
		x.fill(name, 1)
		y.fill(name, 2)
		x.same("another registry's Insert")
	}
	x.wipe()
	y.same("another registry's Wipe")
	if y.r.Zero() {
		t.Error("another registry's Wipe went on to this one")
	}
}

func TestManyGoroutines(t *testing.T) {
	var wait sync.WaitGroup
	for g := range 8 {
		wait.Go(func() {
			for range 50 {
				r := New()
				for i, name := range sixteen() {
					a, err := r.Make(name, g+i+1)
					if err != api.OK || a.Insert(0, byte(g+1)) != api.OK {
						t.Errorf("%d: %d", g, err)
					}
				}
				if r.Zero() || r.Cells() != 16*g+136 || !slices.Equal(r.Names(), sixteen()) {
					t.Errorf("%d: Zero %v, Cells %d, Names %q", g, r.Zero(), r.Cells(), r.Names())
				}
				r.Wipe()
				if !r.Zero() || !r.Clean() {
					t.Errorf("%d: behind a Wipe: Zero %v, Clean %v", g, r.Zero(), r.Clean())
				}
			}
		})
	}
	wait.Wait()
}

// Each 3 bytes are a call, a name and a count.
func FuzzAgainstModel(f *testing.F) {
	for call := range byte(8) {
		f.Add([]byte{0, 1, 9, 0, 2, 5, call, 1, 3, 3, 1, 2, call, 2, 7, 7, 0, 0, 4, 1, 3, call, 1, 1})
		f.Add([]byte{0, 0, 4, 0, 1, 0, call, 1, 200, 5, 1, 8, 6, 1, 1, call, 1, 0})
	}
	f.Fuzz(func(t *testing.T, data []byte) {
		b := newBoth(t)
		for ; len(data) >= 3; data = data[3:] {
			name := ""
			if data[1] != 0 {
				name = strconv.Itoa(int(data[1] % 24))
			}
			turn(b, data[0], name, int(int8(data[2])))
		}
	})
}
