package num

import (
	"math"
	"math/big"
	"math/rand"
	"testing"

	"concierge/api"
)

// The limits as the document writes them out, so that the tests do not lean on the program's own.
const (
	lastTime   = 1099511627776
	lastNumber = 1073741824
)

// farInts are what may be handed in and is no time and no number, and what is just one, or just none.
var farInts = []int{
	math.MinInt, math.MinInt + 1, -1 << 62, -lastTime - 1, -lastTime, -lastNumber, -1000, -2, -1,
	0, 1, 2, 3, 7, 100, 499, 500, 999, 1000, 20000, 60000, 1 << 20,
	lastNumber / 2, lastNumber - 1, lastNumber, lastNumber + 1, 1 << 31, 1<<31 - 1, 1 << 32, 1<<32 + 1,
	lastTime - lastNumber - 1, lastTime - lastNumber, lastTime - lastNumber + 1,
	lastTime - 1, lastTime, lastTime + 1, 1 << 41, 1 << 60, 1 << 62, math.MaxInt - 1, math.MaxInt,
}

// Numbers of any length do not go round: what they answer is what the document asks.
func great(n int) *big.Int {
	return big.NewInt(int64(n))
}

// brought steps to the next one that may be, by numbers of any length.
func brought(n *big.Int, least, most int) *big.Int {
	switch {
	case n.Cmp(great(least)) < 0:
		return great(least)
	case n.Cmp(great(most)) > 0:
		return great(most)
	}
	return n
}

func wantTime(n int) *big.Int {
	return brought(great(n), 0, lastTime)
}

func wantNumber(n int) *big.Int {
	return brought(great(n), 0, lastNumber)
}

func wantPlus(time, span int) *big.Int {
	sum := new(big.Int).Add(wantTime(time), wantNumber(span))
	return brought(sum, 0, lastTime)
}

func wantLeft(now, until int) *big.Int {
	gap := new(big.Int).Sub(wantTime(until), wantTime(now))
	if gap.Sign() < 0 {
		return great(0)
	}
	return gap
}

func wantScale(n, by, of int) *big.Int {
	product := new(big.Int).Mul(wantNumber(n), wantNumber(by))
	return brought(product.Div(product, brought(great(of), 1, lastNumber)), 0, lastNumber)
}

func same(want *big.Int, got int) bool {
	return want.Cmp(great(got)) == 0
}

func checkOne(t *testing.T, n int) {
	t.Helper()
	if got, want := Time(n), wantTime(n); !same(want, got) {
		t.Errorf("Time(%d): %d, not %d", n, got, want)
	}
	got, err := Next(n)
	switch {
	case n >= lastNumber:
		if got != 0 || err != api.ErrOver {
			t.Errorf("Next(%d): %d, %d, not 0 and ErrOver", n, got, err)
		}
	case n < 0:
		if got != 0 || err != api.ErrArg {
			t.Errorf("Next(%d): %d, %d, not 0 and ErrArg", n, got, err)
		}
	case got != n+1 || err != api.OK:
		t.Errorf("Next(%d): %d, %d, not %d and OK", n, got, err, n+1)
	}
}

func checkTwo(t *testing.T, a, b int) {
	t.Helper()
	if got, want := Plus(a, b), wantPlus(a, b); !same(want, got) {
		t.Errorf("Plus(%d, %d): %d, not %d", a, b, got, want)
	}
	if got, want := Left(a, b), wantLeft(a, b); !same(want, got) {
		t.Errorf("Left(%d, %d): %d, not %d", a, b, got, want)
	}
	if got, want := Past(a, b), wantTime(a).Cmp(wantTime(b)) >= 0; got != want {
		t.Errorf("Past(%d, %d): %t, not %t", a, b, got, want)
	}
}

func checkThree(t *testing.T, n, by, of int) {
	t.Helper()
	if got, want := Scale(n, by, of), wantScale(n, by, of); !same(want, got) {
		t.Errorf("Scale(%d, %d, %d): %d, not %d", n, by, of, got, want)
	}
}

func TestTimeIsBroughtToATime(t *testing.T) {
	for n, want := range map[int]int{
		-1: 0, 0: 0, 1: 1, 5: 5, 1234567: 1234567, lastNumber + 1: lastNumber + 1,
		lastTime - 1: lastTime - 1, lastTime: lastTime, lastTime + 1: lastTime,
		math.MinInt: 0, math.MaxInt: lastTime, -lastTime: 0, 1 << 62: lastTime,
	} {
		if got := Time(n); got != want {
			t.Errorf("Time(%d): %d, not %d", n, got, want)
		}
	}
}

func TestPlusStopsAtTheLastTime(t *testing.T) {
	for _, c := range []struct{ time, span, want int }{
		{1 << 40, 5, 1 << 40},
		{100, 30, 130},
		{0, 0, 0},
		{0, 7, 7},
		{7, 0, 7},
		{lastTime - 5, 5, lastTime},
		{lastTime - 5, 4, lastTime - 1},
		{lastTime - 5, 6, lastTime},
		{lastTime - 1, 1, lastTime},
		{lastTime, 0, lastTime},
		{lastTime, 1, lastTime},
		{lastTime - lastNumber, lastNumber, lastTime},
		{lastTime - lastNumber - 1, lastNumber, lastTime - 1},
		{lastTime - lastNumber + 1, lastNumber, lastTime},
		{lastTime, lastNumber, lastTime},
	} {
		if got := Plus(c.time, c.span); got != c.want {
			t.Errorf("Plus(%d, %d): %d, not %d", c.time, c.span, got, c.want)
		}
	}
}

// A time and a span have different mosts: what is beyond that of a span is cut, though it may be a time.
func TestPlusBringsBothAheadOfTheSum(t *testing.T) {
	for _, c := range []struct{ time, span, want int }{
		{0, lastNumber + 1, lastNumber},
		{0, lastTime, lastNumber},
		{10, math.MaxInt, lastNumber + 10},
		{lastNumber + 1, 0, lastNumber + 1},
		{-5, 8, 8},
		{8, -5, 8},
		{-5, -8, 0},
		{math.MinInt, 8, 8},
		{8, math.MinInt, 8},
		{math.MinInt, math.MinInt, 0},
		{math.MaxInt, math.MaxInt, lastTime},
		{math.MaxInt, math.MinInt, lastTime},
		{math.MinInt, math.MaxInt, lastNumber},
		{lastTime + 5, -5, lastTime},
	} {
		if got := Plus(c.time, c.span); got != c.want {
			t.Errorf("Plus(%d, %d): %d, not %d", c.time, c.span, got, c.want)
		}
	}
}

func TestNextIsOneMore(t *testing.T) {
	for n, want := range map[int]int{
		0: 1, 1: 2, 41: 42, lastNumber - 2: lastNumber - 1, lastNumber - 1: lastNumber,
	} {
		if got, err := Next(n); got != want || err != api.OK {
			t.Errorf("Next(%d): %d, %d, not %d and OK", n, got, err, want)
		}
	}
}

func TestNextOfTheLastNumberIsTooGreat(t *testing.T) {
	for _, n := range []int{lastNumber, lastNumber + 1, lastTime, lastTime + 1, 1 << 62, math.MaxInt - 1, math.MaxInt} {
		if got, err := Next(n); got != 0 || err != api.ErrOver {
			t.Errorf("Next(%d): %d, %d, not 0 and ErrOver", n, got, err)
		}
	}
}

func TestNextBelowNoughtMayNotBe(t *testing.T) {
	for _, n := range []int{-1, -2, -lastNumber, -lastTime, -1 << 62, math.MinInt + 1, math.MinInt} {
		if got, err := Next(n); got != 0 || err != api.ErrArg {
			t.Errorf("Next(%d): %d, %d, not 0 and ErrArg", n, got, err)
		}
	}
}

func TestLeftIsWhatIsStillToCome(t *testing.T) {
	for _, c := range []struct{ now, until, want int }{
		{3, 10, 7},
		{9, 10, 1},
		{10, 10, 0},
		{11, 10, 0},
		{10, 3, 0},
		{0, 0, 0},
		{0, lastTime, lastTime},
		{lastTime, 0, 0},
		{lastTime, lastTime, 0},
		{lastTime - 1, lastTime, 1},
		{0, 1, 1},
		{1, lastTime, lastTime - 1},
		{-5, 2, 2},
		{2, -5, 0},
		{-5, -2, 0},
		{0, lastTime + 1, lastTime},
		{lastTime + 1, lastTime + 9, 0},
		{lastTime - 3, math.MaxInt, 3},
		{math.MinInt, 4, 4},
		{math.MinInt, math.MaxInt, lastTime},
		{math.MaxInt, math.MinInt, 0},
		{math.MinInt, math.MinInt, 0},
		{math.MaxInt, math.MaxInt, 0},
		{4, math.MinInt, 0},
	} {
		if got := Left(c.now, c.until); got != c.want {
			t.Errorf("Left(%d, %d): %d, not %d", c.now, c.until, got, c.want)
		}
	}
}

func TestPastIsAtTheTimeOrBehindIt(t *testing.T) {
	for _, c := range []struct {
		now, until int
		want       bool
	}{
		{4, 5, false},
		{5, 5, true},
		{6, 5, true},
		{0, 0, true},
		{0, 1, false},
		{1, 0, true},
		{0, lastTime, false},
		{lastTime, 0, true},
		{lastTime, lastTime, true},
		{lastTime - 1, lastTime, false},
		{lastTime, lastTime - 1, true},
		// Two that are brought to one time are at each other.
		{lastTime, lastTime + 1, true},
		{lastTime, math.MaxInt, true},
		{lastTime - 1, math.MaxInt, false},
		{-9, 0, true},
		{-9, -3, true},
		{-9, 1, false},
		{0, -9, true},
		{math.MinInt, math.MaxInt, false},
		{math.MaxInt, math.MinInt, true},
		{math.MinInt, 0, true},
		{math.MinInt, math.MinInt, true},
		{math.MaxInt, math.MaxInt, true},
	} {
		if got := Past(c.now, c.until); got != c.want {
			t.Errorf("Past(%d, %d): %t, not %t", c.now, c.until, got, c.want)
		}
	}
}

func TestScaleLeavesOutWhatIsLeftOver(t *testing.T) {
	for _, c := range []struct{ n, by, of, want int }{
		{100, 30, 100, 30},
		{6, 4, 3, 8},
		{5, 2, 3, 3},
		{5, 2, 4, 2},
		{1, 1, 2, 0},
		{99, 1, 100, 0},
		// Multiplied first: otherwise what is left over is lost early.
		{7, 3, 2, 10},
		{1, 100, 3, 33},
	} {
		if got := Scale(c.n, c.by, c.of); got != c.want {
			t.Errorf("Scale(%d, %d, %d): %d, not %d", c.n, c.by, c.of, got, c.want)
		}
	}
}

func TestScaleAtTheEdges(t *testing.T) {
	for _, c := range []struct{ n, by, of, want int }{
		{7, 1, 0, 7},
		{7, 1, 1, 7},
		{7, 5, 0, 35},
		{7, 5, 1, 35},
		{0, 5, 0, 0},
		{7, 0, 3, 0},
		{7, 0, 0, 0},
		{lastNumber, 0, 1, 0},
		{0, 0, 0, 0},
		{lastNumber, lastNumber, lastNumber, lastNumber},
		{lastNumber, lastNumber, 0, lastNumber},
		{lastNumber, lastNumber, 1, lastNumber},
		{lastNumber, 1, 1, lastNumber},
		{1, lastNumber, 1, lastNumber},
		{1, 1, lastNumber, 0},
		{lastNumber, 1, lastNumber, 1},
		{lastNumber - 1, 1, lastNumber, 0},
		{lastNumber - 1, lastNumber, lastNumber, lastNumber - 1},
		{lastNumber, lastNumber, lastNumber - 1, lastNumber},
		// Just the last number, one below it and one above it.
		{lastNumber / 2, 2, 1, lastNumber},
		{lastNumber / 4, 8, 2, lastNumber},
		{lastNumber - 1, 2, 2, lastNumber - 1},
		{(lastNumber + 1) / 5, 5, 1, lastNumber}, // 5 divides it without anything left over
		{(lastNumber + 1) / 5, 10, 2, lastNumber},
		{lastNumber/2 + 1, 2, 1, lastNumber},
	} {
		if got := Scale(c.n, c.by, c.of); got != c.want {
			t.Errorf("Scale(%d, %d, %d): %d, not %d", c.n, c.by, c.of, got, c.want)
		}
	}
}

func TestScaleBringsEachAheadOfAllElse(t *testing.T) {
	for _, c := range []struct{ n, by, of, want int }{
		{-5, 3, 1, 0},
		{5, -3, 1, 0},
		{-5, -3, 1, 0},
		{6, 3, -2, 18},
		{math.MinInt, 3, 1, 0},
		{5, math.MinInt, 1, 0},
		{5, 3, math.MinInt, 15},
		{math.MinInt, math.MinInt, math.MinInt, 0},
		{math.MinInt, 1, -1, 0},
		{math.MaxInt, 1, 2, lastNumber / 2},
		{1, math.MaxInt, 2, lastNumber / 2},
		{lastTime, 1, lastTime, 1},
		{5, lastNumber, math.MaxInt, 5},
		{math.MaxInt, math.MaxInt, math.MaxInt, lastNumber},
		{math.MaxInt, math.MaxInt, math.MinInt, lastNumber},
		{1 << 32, 1 << 32, 1, lastNumber},
		{lastNumber + 1, 1, 1, lastNumber},
	} {
		if got := Scale(c.n, c.by, c.of); got != c.want {
			t.Errorf("Scale(%d, %d, %d): %d, not %d", c.n, c.by, c.of, got, c.want)
		}
	}
}

// fields are the least and the most of each field of a configuration, as the document gives them.
var fields = []struct {
	name        string
	least, most int
	at          func(*api.Config) *int
}{
	{"Workers", 1, 4, func(c *api.Config) *int { return &c.Workers }},
	{"Lease", 1, lastNumber, func(c *api.Config) *int { return &c.Lease }},
	{"TTL", 1, lastNumber, func(c *api.Config) *int { return &c.TTL }},
	{"Quota", 1, 200, func(c *api.Config) *int { return &c.Quota }},
	{"Segment", 500, 20000, func(c *api.Config) *int { return &c.Segment }},
	{"Disk", 1000, 60000, func(c *api.Config) *int { return &c.Disk }},
}

// middle differs in each field, and from each least and most: a field that is taken for another shows.
var middle = api.Config{Workers: 2, Lease: 30, TTL: 400, Quota: 50, Segment: 6000, Disk: 7000}

func checkConfig(t *testing.T, given, want api.Config) {
	t.Helper()
	if got := Config(given); got != want {
		t.Errorf("Config(%+v): %+v, not %+v", given, got, want)
	}
}

// wantConfig brings each field by itself.
func wantConfig(c api.Config) api.Config {
	for _, f := range fields {
		at := f.at(&c)
		*at = int(brought(great(*at), f.least, f.most).Int64())
	}
	return c
}

func TestConfigThatMayBeStays(t *testing.T) {
	checkConfig(t, middle, middle)
	most := api.Config{Workers: 4, Lease: 1 << 30, TTL: 1 << 30, Quota: 200, Segment: 20000, Disk: 60000}
	checkConfig(t, most, most)
	least := api.Config{Workers: 1, Lease: 1, TTL: 1, Quota: 1, Segment: 500, Disk: 1000}
	checkConfig(t, least, least)
}

func TestConfigOfNothingIsTheLeast(t *testing.T) {
	checkConfig(t, api.Config{}, api.Config{Workers: 1, Lease: 1, TTL: 1, Quota: 1, Segment: 500, Disk: 1000})
}

func TestConfigBringsOneFieldAndLeavesTheOthers(t *testing.T) {
	for _, f := range fields {
		for _, c := range []struct{ given, want int }{
			{f.least, f.least},
			{f.least + 1, f.least + 1},
			{f.most, f.most},
			{f.most - 1, f.most - 1},
			{f.least - 1, f.least},
			{f.most + 1, f.most},
			{0, f.least},
			{-1, f.least},
			{-lastTime, f.least},
			{math.MinInt, f.least},
			{lastTime, f.most},
			{math.MaxInt, f.most},
		} {
			given, want := middle, middle
			*f.at(&given), *f.at(&want) = c.given, c.want
			checkConfig(t, given, want)
		}
	}
}

func TestConfigFarBeyondInAllFields(t *testing.T) {
	for _, n := range farInts {
		given := api.Config{Workers: n, Lease: n, TTL: n, Quota: n, Segment: n, Disk: n}
		checkConfig(t, given, wantConfig(given))
	}
}

func TestConfigOfOneThatWasBroughtIsTheSame(t *testing.T) {
	random := rand.New(rand.NewSource(6))
	for range 5000 {
		var given api.Config
		for _, f := range fields {
			*f.at(&given) = anyInt(random)
		}
		checkConfig(t, given, wantConfig(given))
		checkConfig(t, Config(given), Config(given))
	}
}

// Each argument at each of the far numbers, with the others at each of them.
func TestAllCallsAtFarNumbers(t *testing.T) {
	for _, a := range farInts {
		checkOne(t, a)
		for _, b := range farInts {
			checkTwo(t, a, b)
			for _, c := range farInts {
				checkThree(t, a, b, c)
			}
		}
	}
}

// anyInt is of any size, about as often of each, and often near an edge.
func anyInt(random *rand.Rand) int {
	n := int(random.Uint64() >> random.Intn(64))
	if random.Intn(2) == 0 {
		n = farInts[random.Intn(len(farInts))] + random.Intn(9) - 4
	}
	return n
}

func TestAllCallsAtNumbersOfAnySize(t *testing.T) {
	random := rand.New(rand.NewSource(66))
	for range 100000 {
		a, b, c := anyInt(random), anyInt(random), anyInt(random)
		checkOne(t, a)
		checkTwo(t, a, b)
		checkThree(t, a, b, c)
	}
}
