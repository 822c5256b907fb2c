package moment

import (
	"encoding/binary"
	"math"
	"slices"
	"sync"
	"testing"

	"whisperer/api"
)

const (
	leastKey    = uint64(0x000fffffffffffff) // of -Inf
	greatestKey = uint64(0xfff0000000000000) // of +Inf
	noKey       = uint64(18446744073709551615)
)

// The model: what the chapter says of a moment, read off its sign, its exponent and its fraction.

func modelKind(a float64) int {
	x := math.Float64bits(a)
	below, exponent, fraction := x>>63 == 1, x>>52&2047, x&(1<<52-1)
	switch {
	case exponent == 2047 && fraction != 0:
		return 6
	case exponent == 2047 && below:
		return 0
	case exponent == 2047:
		return 5
	case exponent == 0 && fraction == 0 && below:
		return 2
	case exponent == 0 && fraction == 0:
		return 3
	case below:
		return 1
	}
	return 4
}

func modelCompare(a, b float64) int {
	ka, kb := modelKind(a), modelKind(b)
	switch {
	case ka < kb || ka == kb && a < b:
		return -1
	case kb < ka || ka == kb && b < a:
		return 1
	}
	return 0
}

func modelKey(a float64) uint64 {
	x := math.Float64bits(a)
	switch {
	case modelKind(a) == 6:
		return 18446744073709551615
	case x >= 9223372036854775808:
		return 18446744073709551615 - x
	}
	return x + 9223372036854775808
}

// modelSort lays each moment behind all that aren't behind it.
func modelSort(l []float64) []float64 {
	var sorted []float64
	for _, a := range l {
		i := len(sorted)
		for i > 0 && modelCompare(a, sorted[i-1]) < 0 {
			i--
		}
		sorted = slices.Insert(sorted, i, a)
	}
	return sorted
}

func bitsOf(l []float64) []uint64 {
	var all []uint64
	for _, a := range l {
		all = append(all, math.Float64bits(a))
	}
	return all
}

func same(a, b []float64) bool { return slices.Equal(bitsOf(a), bitsOf(b)) }

// inOrder are moments of each sort, each one ahead of the next.
func inOrder() []float64 {
	least := math.Float64frombits(1 << 52) // the least one with all its digits
	return []float64{
		math.Inf(-1), -math.MaxFloat64, math.Nextafter(-math.MaxFloat64, 0), -1e300, -math.Pi, -1.5, math.Nextafter(-1, -2), -1, math.Nextafter(-1, 0), -0.5, -1e-300, -least, math.Nextafter(-least, 0), -2 * math.SmallestNonzeroFloat64, -math.SmallestNonzeroFloat64, math.Copysign(0, -1),
		0, math.SmallestNonzeroFloat64, 2 * math.SmallestNonzeroFloat64, math.Nextafter(least, 0), least, 1e-300, 0.5, math.Nextafter(1, 0), 1, math.Nextafter(1, 2), 1.5, math.Pi, 1e300, math.Nextafter(math.MaxFloat64, 0), math.MaxFloat64, math.Inf(1),
		math.NaN(),
	}
}

// noNumbers have other bits each, and either sign.
func noNumbers() []float64 {
	var l []float64
	for _, x := range []uint64{0x7ff0000000000001, 0x7ff7ffffffffffff, 0x7ff8000000000000, 0x7ff8000000000001, 0x7fffffffffffffff} {
		l = append(l, math.Float64frombits(x), math.Float64frombits(x|1<<63))
	}
	return l
}

// byBits are moments with all sorts of exponents and fractions, of either sign; some are no numbers.
func byBits() []float64 {
	var l []float64
	for _, exponent := range []uint64{0, 1, 1022, 1023, 1024, 2046, 2047} {
		for _, fraction := range []uint64{0, 1, 1<<51 - 1, 1 << 51, 1<<52 - 1} {
			x := exponent<<52 | fraction
			l = append(l, math.Float64frombits(x), math.Float64frombits(x|1<<63))
		}
	}
	return l
}

// numbers are n of 64 bits, of all sorts, by a rule.
func numbers(n int) []uint64 {
	l := make([]uint64, n)
	x := uint64(1)
	for i := range l {
		x = x*6364136223846793005 + 1442695040888963407
		l[i] = x ^ x>>29
	}
	return l
}

func manyMoments(n int) []float64 {
	var l []float64
	for _, x := range numbers(n) {
		l = append(l, math.Float64frombits(x))
	}
	return l
}

func allMoments() []float64 {
	return slices.Concat(inOrder(), noNumbers(), byBits(), manyMoments(300))
}

func checkMoment(t *testing.T, a float64) {
	t.Helper()
	x := math.Float64bits(a)
	if got, want := Kind(a), modelKind(a); got != want {
		t.Errorf("Kind(%x): %d, want %d", x, got, want)
	}
	k := modelKey(a)
	if got := Key(a); got != k {
		t.Errorf("Key(%x): %d, want %d", x, got, k)
	}
	back, err := Of(k)
	if modelKind(a) == 6 {
		checkNoMoment(t, k)
	} else if err != api.OK || math.Float64bits(back) != x {
		t.Errorf("Of(%d): %x %v, want %x", k, math.Float64bits(back), err, x)
	}
}

func checkPair(t *testing.T, a, b float64) {
	t.Helper()
	want := modelCompare(a, b)
	if got := Compare(a, b); got != want {
		t.Errorf("Compare(%x, %x): %d, want %d", math.Float64bits(a), math.Float64bits(b), got, want)
	}
	if got := Compare(b, a); got != -want {
		t.Errorf("Compare(%x, %x): %d, want %d", math.Float64bits(b), math.Float64bits(a), got, -want)
	}
}

func checkNoMoment(t *testing.T, k uint64) {
	t.Helper()
	if a, err := Of(k); err != api.ErrRange || math.Float64bits(a) != 0 {
		t.Errorf("Of(%d): %x %v", k, math.Float64bits(a), err)
	}
}

func checkSort(t *testing.T, l []float64) {
	t.Helper()
	before := slices.Clone(l)
	want := modelSort(l)
	if got := Sort(l...); !same(got, want) {
		t.Errorf("Sort(%x): %x, want %x", bitsOf(l), bitsOf(got), bitsOf(want))
	}
	if !same(l, before) {
		t.Errorf("%x was changed to %x", bitsOf(before), bitsOf(l))
	}
}

// P2.1.

func TestCompareByPlaces(t *testing.T) {
	l := inOrder()
	for i, a := range l {
		for j, b := range l {
			want := 0
			if i < j {
				want = -1
			} else if i > j {
				want = 1
			}
			if got := Compare(a, b); got != want {
				t.Errorf("Compare(%v, %v): %d, want %d", a, b, got, want)
			}
		}
	}
}

func TestCompareOfAllPairs(t *testing.T) {
	l := allMoments()
	for i, a := range l {
		for _, b := range l[i:] {
			checkPair(t, a, b)
		}
	}
}

func TestAllThatAreNoNumbersAreAtOnePlace(t *testing.T) {
	for _, a := range noNumbers() {
		for _, b := range noNumbers() {
			if Compare(a, b) != 0 || Key(a) != Key(b) {
				t.Errorf("%x, %x: %d", math.Float64bits(a), math.Float64bits(b), Compare(a, b))
			}
		}
		for _, b := range inOrder()[:32] {
			if Compare(a, b) != 1 || Compare(b, a) != -1 {
				t.Errorf("%x, %v: %d", math.Float64bits(a), b, Compare(a, b))
			}
		}
	}
}

func TestKindNamedMoments(t *testing.T) {
	for _, x := range []struct {
		a    float64
		kind int
	}{
		{math.Inf(-1), 0},
		{-math.MaxFloat64, 1},
		{-1, 1},
		{-math.SmallestNonzeroFloat64, 1},
		{math.Copysign(0, -1), 2},
		{0, 3},
		{math.SmallestNonzeroFloat64, 4},
		{1, 4},
		{math.MaxFloat64, 4},
		{math.Inf(1), 5},
		{math.NaN(), 6},
		{math.Copysign(math.NaN(), -1), 6},
	} {
		if got := Kind(x.a); got != x.kind {
			t.Errorf("Kind(%v): %d, want %d", x.a, got, x.kind)
		}
	}
	for _, a := range noNumbers() {
		if got := Kind(a); got != 6 {
			t.Errorf("Kind(%x): %d", math.Float64bits(a), got)
		}
	}
}

// An earlier kind is an earlier place.
func TestKindsAreInOrder(t *testing.T) {
	l := allMoments()
	for _, a := range l {
		for _, b := range l {
			if Kind(a) < Kind(b) && Compare(a, b) != -1 {
				t.Errorf("%x, %x: %d", math.Float64bits(a), math.Float64bits(b), Compare(a, b))
			}
		}
	}
}

// P2.2.

func TestKeyNamedMoments(t *testing.T) {
	for _, x := range []struct {
		a   float64
		key uint64
	}{
		{math.Inf(-1), 4503599627370495},
		{-math.MaxFloat64, 4503599627370496},
		{-1, 4616189618054758399},
		{-math.SmallestNonzeroFloat64, 9223372036854775806},
		{math.Copysign(0, -1), 9223372036854775807},
		{0, 9223372036854775808},
		{math.SmallestNonzeroFloat64, 9223372036854775809},
		{1, 13830554455654793216},
		{math.MaxFloat64, 18442240474082181119},
		{math.Inf(1), 18442240474082181120},
		{math.NaN(), 18446744073709551615},
		{math.Copysign(math.NaN(), -1), 18446744073709551615},
	} {
		if got := Key(x.a); got != x.key {
			t.Errorf("Key(%v): %d, want %d", x.a, got, x.key)
		}
	}
	for _, a := range noNumbers() {
		if got := Key(a); got != noKey {
			t.Errorf("Key(%x): %d", math.Float64bits(a), got)
		}
	}
}

func TestKindKeyAndOfOfAllMoments(t *testing.T) {
	for _, a := range slices.Concat(allMoments(), manyMoments(100000)) {
		checkMoment(t, a)
	}
}

func TestOfNamedKeys(t *testing.T) {
	for _, x := range []struct {
		key  uint64
		bits uint64
	}{
		{leastKey, 0xfff0000000000000},
		{leastKey + 1, 0xffefffffffffffff},
		{9223372036854775806, 0x8000000000000001},
		{9223372036854775807, 0x8000000000000000},
		{9223372036854775808, 0},
		{9223372036854775809, 1},
		{greatestKey - 1, 0x7fefffffffffffff},
		{greatestKey, 0x7ff0000000000000},
	} {
		if a, err := Of(x.key); err != api.OK || math.Float64bits(a) != x.bits {
			t.Errorf("Of(%d): %x %v, want %x", x.key, math.Float64bits(a), err, x.bits)
		}
	}
}

func TestOfNumbersThatAreNoKeys(t *testing.T) {
	for _, k := range []uint64{0, 1, 2, 1 << 51, leastKey - 1, greatestKey + 1, 0xfff7ffffffffffff, 0xfff8000000000000, noKey - 1, noKey} {
		checkNoMoment(t, k)
	}
	// What the rules of a number's key would make of one that is none.
	for _, a := range noNumbers() {
		x := math.Float64bits(a) | 1<<63
		checkNoMoment(t, noKey-x)
		checkNoMoment(t, x)
	}
}

func TestOfIsTheOneWithThatKey(t *testing.T) {
	for _, k := range slices.Concat(numbers(100000), []uint64{leastKey, greatestKey, 1<<63 - 1, 1 << 63}) {
		a, err := Of(k)
		if k < leastKey || k > greatestKey {
			checkNoMoment(t, k)
		} else if err != api.OK || Key(a) != k {
			t.Errorf("Of(%d): %x %v", k, math.Float64bits(a), err)
		}
	}
}

// P2.3.

func TestSortNamedLists(t *testing.T) {
	minusZero := math.Copysign(0, -1)
	checkSort(t, nil)
	checkSort(t, []float64{})
	if got := Sort(); len(got) != 0 {
		t.Error(got)
	}
	for _, a := range allMoments() {
		if got := Sort(a); !same(got, []float64{a}) {
			t.Errorf("Sort(%x): %x", math.Float64bits(a), bitsOf(got))
		}
		checkSort(t, []float64{a, a, a})
	}
	if got := Sort(3, -1, 2); !same(got, []float64{-1, 2, 3}) {
		t.Error(got)
	}
	if got := Sort(0, minusZero, 0, minusZero); !same(got, []float64{minusZero, minusZero, 0, 0}) {
		t.Error(got)
	}
	if got := Sort(math.NaN(), math.Inf(1), math.Inf(-1)); !same(got, []float64{math.Inf(-1), math.Inf(1), math.NaN()}) {
		t.Error(got)
	}
}

func TestSortFromAnyOrder(t *testing.T) {
	l := inOrder()
	back := slices.Clone(l)
	slices.Reverse(back)
	for i := range l {
		checkSort(t, slices.Concat(l[i:], l[:i]))
		checkSort(t, slices.Concat(back[i:], back[:i]))
	}
	if got := Sort(back...); !same(got, l) {
		t.Error(got)
	}
}

// Those that are no numbers are at one place: their bits tell that they stay as they stood.
func TestSortLeavesThoseAtOnePlaceAsTheyStood(t *testing.T) {
	l := noNumbers()
	if got := Sort(l...); !same(got, l) {
		t.Errorf("%x", bitsOf(got))
	}
	var mixed []float64
	for i, x := range numbers(3000) {
		a := math.Float64frombits(0x7ff8000000000000 | uint64(i) | x>>63<<63)
		if x%3 == 0 {
			a = float64(x % 17)
		}
		mixed = append(mixed, a)
	}
	checkSort(t, mixed)
}

func TestSortOfManyMoments(t *testing.T) {
	for n := range 40 {
		checkSort(t, manyMoments(n))
	}
	checkSort(t, allMoments())
	checkSort(t, manyMoments(3000))
}

func TestSortWithinTheLength(t *testing.T) {
	whole := []float64{3, 2, 1, -1, -2}
	got := Sort(whole[:3]...)
	if !same(got, []float64{1, 2, 3}) || !same(whole, []float64{3, 2, 1, -1, -2}) {
		t.Error(got, whole)
	}
	for _, a := range got[:cap(got)][len(got):] {
		if math.Float64bits(a) != 0 {
			t.Error("what lies behind the length was handed out")
		}
	}
}

func TestSortIsNewMemory(t *testing.T) {
	for _, l := range [][]float64{{1}, {1, 2, 3}, {3, 2, 1}} {
		before := slices.Clone(l)
		first, second := Sort(l...), Sort(l...)
		clear(first)
		if !same(l, before) || !same(second, modelSort(before)) {
			t.Error(l, second)
		}
	}
}

// P2.4.

func TestKeysAreInTheOrderOfMoments(t *testing.T) {
	l := allMoments()
	for _, a := range l {
		for _, b := range l {
			if (Key(a) < Key(b)) != (modelCompare(a, b) < 0) || (Key(a) == Key(b)) != (modelCompare(a, b) == 0) {
				t.Errorf("%x, %x: %d %d", math.Float64bits(a), math.Float64bits(b), Key(a), Key(b))
			}
		}
	}
}

func TestTheOrderIsOneOfAnyThree(t *testing.T) {
	l := slices.Concat(inOrder(), noNumbers(), byBits())
	for _, a := range l {
		for _, b := range l {
			ab := Compare(a, b)
			if ab != -Compare(b, a) {
				t.Fatalf("%x, %x: %d", math.Float64bits(a), math.Float64bits(b), ab)
			}
			for _, c := range l {
				bc, ac := Compare(b, c), Compare(a, c)
				if ab <= 0 && bc <= 0 && ac != min(ab, bc) {
					t.Fatalf("%x, %x, %x: %d %d %d", math.Float64bits(a), math.Float64bits(b), math.Float64bits(c), ab, bc, ac)
				}
			}
		}
	}
}

// P1, and many goroutines at a time.

func TestManyAtATime(t *testing.T) {
	l := manyMoments(1000)
	want := Sort(l...)
	var all sync.WaitGroup
	for range 8 {
		all.Go(func() {
			if !same(Sort(l...), want) {
				t.Error("another answer at another time")
			}
		})
	}
	all.Wait()
}

func FuzzAgainstModel(f *testing.F) {
	for _, a := range inOrder() {
		f.Add(binary.LittleEndian.AppendUint64(nil, math.Float64bits(a)))
	}
	f.Fuzz(func(t *testing.T, b []byte) {
		var l []float64
		for len(b) >= 8 {
			l = append(l, math.Float64frombits(binary.LittleEndian.Uint64(b)))
			b = b[8:]
		}
		for i, a := range l {
			checkMoment(t, a)
			checkPair(t, l[0], l[i])
		}
		checkSort(t, l)
	})
}
