package zone_test

import (
	"math"
	"math/rand"
	"slices"
	"strconv"
	"strings"
	"testing"

	"cenotaph/api"
	"cenotaph/zone"
)

var (
	all  = zone.Step{Op: zone.All}
	not  = zone.Step{Op: zone.Not}
	and  = zone.Step{Op: zone.And}
	or   = zone.Step{Op: zone.Or}
	null = math.Copysign(0, -1) // -0, which Go has no constant for
)

func disc(x, y, size float64) zone.Step {
	return zone.Step{Op: zone.Disc, At: complex(x, y), Size: size}
}

func half(x, y, size float64) zone.Step {
	return zone.Step{Op: zone.Half, At: complex(x, y), Size: size}
}

// many is n times the steps.
func many(n int, steps ...zone.Step) zone.Zone { return slices.Repeat(zone.Zone(steps), n) }

func TestOps(t *testing.T) {
	for i, op := range []int{zone.All, zone.Disc, zone.Half, zone.Not, zone.And, zone.Or} {
		if op != i+1 {
			t.Errorf("Op %d is %d", i+1, op)
		}
	}
}

func TestWhole(t *testing.T) {
	good := []float64{0, null, 1, -1, 999, 1000, -1000}
	bad := []float64{1001, -1001, 0.5, -0.5, 999.5, 1000.0000000001, -1000.0000000001, 5e-324, -5e-324, 1e300, math.MaxFloat64, math.Inf(1), math.Inf(-1), math.NaN()}
	for _, x := range good {
		for _, y := range good {
			if !zone.Whole(complex(x, y)) {
				t.Errorf("%v, %v is no place", x, y)
			}
		}
		for _, y := range bad {
			if zone.Whole(complex(x, y)) || zone.Whole(complex(y, x)) || zone.Whole(complex(y, y)) {
				t.Errorf("%v and %v are a place", x, y)
			}
		}
	}
}

func rightOnes() []zone.Zone {
	return []zone.Zone{
		{all},
		{disc(0, 0, 0)},
		{disc(0, 0, 2000)},
		{disc(-1000, 1000, 5)},
		{disc(null, null, null)},
		{half(0, 0, 0)},
		{half(0, 0, null)},
		{half(1000, -1000, 2000000)},
		{half(-1000, 1000, -2000000)},
		{half(1, 0, 3)},
		{all, not},
		{all, not, not},
		{all, all, and},
		{all, all, or},
		{disc(0, 0, 5), half(1, 0, 3), and},
		{all, not, disc(1, 1, 0), or},
		{all, all, all, and, or},
		{all, all, and, all, or, not},
		{{Op: zone.All, At: complex(null, null), Size: null}},
		{all, {Op: zone.Not, At: complex(0, null), Size: null}},
		append(zone.Zone{all}, many(31, not)...),
		append(many(16, all), many(15, and)...),
	}
}

func TestRight(t *testing.T) {
	for _, l := range rightOnes() {
		if !zone.Right(l) {
			t.Errorf("%v isn't Right", l)
		}
	}
}

func TestRightOfManySteps(t *testing.T) {
	for n := range 40 {
		l := append(zone.Zone{all}, many(n, not)...)
		if zone.Right(l) != (n+1 <= api.MaxZone) {
			t.Errorf("%d steps", n+1)
		}
		l = append(many(n, all), many(n, and)...)
		if zone.Right(l) {
			t.Errorf("%d Alls, and as many Ands", n)
		}
		if n > 0 && zone.Right(l[:2*n-1]) != (2*n-1 <= api.MaxZone) {
			t.Errorf("%d Alls, and an And less", n)
		}
	}
}

func wrongOnes() []zone.Zone {
	nan, inf := math.NaN(), math.Inf(1)
	l := []zone.Zone{
		nil,
		{},
		{{}},
		{{Op: -1}},
		{{Op: 7}},
		{{Op: math.MinInt}},
		{{Op: math.MaxInt}},
		{all, {Op: 7}},
		{all, {}},
		{not},
		{not, all},
		{and},
		{or},
		{all, and},
		{all, or},
		{all, and, all},
		{and, all, all},
		{all, all},
		{all, all, not},
		{all, all, all, and},
		{all, all, and, and},
		{all, all, and, or},
		many(33, all),
		append(zone.Zone{all}, many(32, not)...),
	}
	for _, s := range []zone.Step{
		disc(1001, 0, 1), disc(0, -1001, 1), disc(0.5, 0, 1), disc(0, 0.5, 1), disc(nan, 0, 1), disc(0, inf, 1),
		disc(0, 0, -1), disc(0, 0, 2001), disc(0, 0, 0.5), disc(0, 0, nan), disc(0, 0, inf), disc(0, 0, -inf), disc(0, 0, -5e-324),
		half(1001, 0, 1), half(0, -1001, 1), half(0.5, 0, 1), half(0, 0.5, 1), half(nan, 0, 1), half(0, -inf, 1),
		half(0, 0, -2000001), half(0, 0, 2000001), half(0, 0, 0.5), half(0, 0, nan), half(0, 0, inf), half(0, 0, -inf),
	} {
		l = append(l, zone.Zone{s}, zone.Zone{all, s, or}, zone.Zone{s, not})
	}
	for _, op := range []int{zone.All, zone.Not, zone.And, zone.Or} {
		for _, s := range []zone.Step{
			{Op: op, At: 1}, {Op: op, At: 1i}, {Op: op, At: complex(nan, 0)}, {Op: op, Size: 1}, {Op: op, Size: -1}, {Op: op, Size: nan}, {Op: op, Size: inf},
		} {
			for alls := range 3 {
				l = append(l, append(many(alls, all), s))
			}
		}
	}
	return l
}

func TestWrongZones(t *testing.T) {
	for _, l := range wrongOnes() {
		if zone.Right(l) {
			t.Errorf("%v is Right", l)
		}
		if zone.Has(l, 0) || zone.Has(l, complex(1, 1)) {
			t.Errorf("%v has something", l)
		}
		if s := zone.Text(l); s != "" {
			t.Errorf("%v has a text: %s", l, s)
		}
	}
}

func TestHas(t *testing.T) {
	for _, c := range []struct {
		l    zone.Zone
		x, y float64
		want bool
	}{
		{zone.Zone{disc(0, 0, 5), half(1, 0, 3), and}, 3, 4, true},
		{zone.Zone{disc(0, 0, 5), half(1, 0, 3), and}, 4, 4, false},
		{zone.Zone{disc(0, 0, 5), half(1, 0, 3), and}, 2, 0, false},
		{zone.Zone{all}, 1000, -1000, true},
		{zone.Zone{all}, null, null, true},
		{zone.Zone{all, not}, 0, 0, false},
		{zone.Zone{all, not, not}, 0, 0, true},
		{zone.Zone{disc(7, -3, 0)}, 7, -3, true},
		{zone.Zone{disc(7, -3, 0)}, 7, -2, false},
		{zone.Zone{disc(7, -3, 0)}, 8, -3, false},
		{zone.Zone{disc(0, 0, null)}, null, 0, true},
		{zone.Zone{disc(1, 1, 5)}, 4, 5, true},
		{zone.Zone{disc(1, 1, 5)}, -3, -2, true},
		{zone.Zone{disc(1, 1, 5)}, 5, 5, false},
		{zone.Zone{disc(1, 1, 5)}, 6, 1, true},
		{zone.Zone{disc(1, 1, 5)}, 7, 1, false},
		{zone.Zone{disc(-1000, -1000, 2000)}, 1000, -1000, true},
		{zone.Zone{disc(-1000, -1000, 2000)}, 1000, -999, false},
		{zone.Zone{disc(-1000, -1000, 2000)}, 200, 600, true},
		{zone.Zone{disc(-1000, -1000, 2000)}, 201, 600, false},
		{zone.Zone{half(0, 1, 3)}, 9, 3, true},
		{zone.Zone{half(0, 1, 3)}, 9, 2, false},
		{zone.Zone{half(2, -3, 5)}, 1, -1, true},
		{zone.Zone{half(2, -3, 6)}, 1, -1, false},
		{zone.Zone{half(2, -3, -1)}, 1, 1, true},
		{zone.Zone{half(2, -3, 0)}, 1, 1, false},
		{zone.Zone{half(0, 0, 0)}, 5, 5, true},
		{zone.Zone{half(0, 0, 1)}, 5, 5, false},
		{zone.Zone{half(0, 0, -1)}, 5, 5, true},
		{zone.Zone{half(1000, 1000, 2000000)}, 1000, 1000, true},
		{zone.Zone{half(1000, 1000, 2000000)}, 1000, 999, false},
		{zone.Zone{half(1000, -1000, -2000000)}, -1000, 1000, true},
		{zone.Zone{half(1000, -1000, -1999999)}, -1000, 1000, false},
		{zone.Zone{all, all, not, and}, 0, 0, false},
		{zone.Zone{all, all, not, or}, 0, 0, true},
		{zone.Zone{all, not, all, and}, 0, 0, false},
		{zone.Zone{all, not, all, or}, 0, 0, true},
		{zone.Zone{all, not, all, not, or}, 0, 0, false},
		{zone.Zone{all, not, all, all, or, and}, 0, 0, false},
		{zone.Zone{all, not, all, and, all, or}, 0, 0, true},
		{zone.Zone{all}, 1001, 0, false},
		{zone.Zone{all}, 0, -1001, false},
		{zone.Zone{all}, 0.5, 0, false},
		{zone.Zone{all}, 0, math.NaN(), false},
		{zone.Zone{all}, math.Inf(1), 0, false},
		{zone.Zone{disc(0, 0, 5), not}, 0.5, 0, false},
		{zone.Zone{disc(0, 0, 5), not}, 1001, 0, false},
	} {
		if zone.Has(c.l, complex(c.x, c.y)) != c.want {
			t.Errorf("Has(%v, %v, %v) isn't %v", c.l, c.x, c.y, c.want)
		}
	}
}

// grown is a Right zone of n steps at most, and whether it has the place x, y, worked out by whole numbers and from
// the outside in.
func grown(r *rand.Rand, n, x, y int) (zone.Zone, bool) {
	kind := r.Intn(6)
	switch {
	case n >= 3 && kind <= 2:
		l, inL := grown(r, (n-1)/2, x, y)
		m, inM := grown(r, (n-1)/2, x, y)
		if kind == 0 {
			return append(append(l, m...), and), inL && inM
		}
		return append(append(l, m...), or), inL || inM
	case n >= 2 && kind == 3:
		l, in := grown(r, n-1, x, y)
		return append(l, not), !in
	case kind == 4:
		a, b, size := r.Intn(2001)-1000, r.Intn(2001)-1000, r.Intn(2001)
		return zone.Zone{disc(float64(a), float64(b), float64(size))}, (x-a)*(x-a)+(y-b)*(y-b) <= size*size
	case kind == 5:
		a, b := r.Intn(2001)-1000, r.Intn(2001)-1000
		size := min(x*a+y*b+r.Intn(3)-1, 2000000)
		return zone.Zone{half(float64(a), float64(b), float64(size))}, x*a+y*b >= size
	}
	return zone.Zone{all}, true
}

func TestGrownZones(t *testing.T) {
	r := rand.New(rand.NewSource(5))
	for range 20000 {
		x, y := r.Intn(2001)-1000, r.Intn(2001)-1000
		l, want := grown(r, 1+r.Intn(api.MaxZone), x, y)
		if !zone.Right(l) || zone.Has(l, complex(float64(x), float64(y))) != want {
			t.Fatalf("%v has %d %d: not %v", l, x, y, want)
		}
		back, ok := zone.Parse(zone.Text(l))
		if !ok || !slices.Equal(back, l) {
			t.Fatalf("%v comes back from %s as %v", l, zone.Text(l), back)
		}
	}
}

func TestDiscsByWholeNumbers(t *testing.T) {
	for size := range 14 {
		l := zone.Zone{disc(1, -2, float64(size))}
		for x := -15; x <= 15; x++ {
			for y := -15; y <= 15; y++ {
				if zone.Has(l, complex(float64(x), float64(y))) != ((x-1)*(x-1)+(y+2)*(y+2) <= size*size) {
					t.Fatalf("a disc of %d at 1 -2: %d %d", size, x, y)
				}
			}
		}
	}
}

func TestHalvesByWholeNumbers(t *testing.T) {
	for size := -14; size <= 14; size++ {
		l := zone.Zone{half(3, -2, float64(size))}
		for x := -7; x <= 7; x++ {
			for y := -7; y <= 7; y++ {
				if zone.Has(l, complex(float64(x), float64(y))) != (3*x-2*y >= size) {
					t.Fatalf("a half of %d along 3 -2: %d %d", size, x, y)
				}
			}
		}
	}
}

func TestEverywhere(t *testing.T) {
	l := zone.Everywhere()
	if !slices.Equal(l, zone.Zone{all}) || zone.Text(l) != "all" {
		t.Error(l)
	}
	for _, z := range []complex128{0, complex(-1000, 1000), complex(1000, -1000), complex(3, 4)} {
		if !zone.Has(l, z) {
			t.Error(z)
		}
	}
	for _, z := range []complex128{complex(1001, 0), complex(0, 0.5)} {
		if zone.Has(l, z) {
			t.Error(z)
		}
	}
}

func TestSame(t *testing.T) {
	ones := rightOnes()
	texts := map[string]bool{}
	for _, a := range ones {
		texts[zone.Text(a)] = true
		for _, b := range ones {
			if zone.Same(a, b) != (zone.Text(a) == zone.Text(b)) {
				t.Errorf("Same(%v, %v) = %v", a, b, zone.Same(a, b))
			}
		}
	}
	if len(texts) != len(ones)-4 {
		t.Errorf("%d texts of %d zones", len(texts), len(ones))
	}
	for _, c := range []struct {
		a, b zone.Zone
		want bool
	}{
		{nil, zone.Zone{}, true},
		{nil, zone.Zone{all}, false},
		{zone.Zone{all}, zone.Zone{all, not}, false},
		{zone.Zone{all, not}, zone.Zone{all}, false},
		{zone.Zone{all, all, and}, zone.Zone{all, all, or}, false},
		{zone.Zone{disc(0, 0, 5)}, zone.Zone{disc(0, 0, 6)}, false},
		{zone.Zone{disc(0, 0, 5)}, zone.Zone{disc(0, 1, 5)}, false},
		{zone.Zone{disc(0, 0, 5)}, zone.Zone{half(0, 0, 5)}, false},
		{zone.Zone{disc(0, 0, 0)}, zone.Zone{disc(null, null, null)}, true},
		{zone.Zone{all, not, not}, zone.Zone{all}, false},
		{zone.Zone{{Op: 9, At: 0.5}}, zone.Zone{{Op: 9, At: 0.5}}, true},
		{zone.Zone{disc(0, 0, math.NaN())}, zone.Zone{disc(0, 0, math.NaN())}, false},
	} {
		if zone.Same(c.a, c.b) != c.want || zone.Same(c.b, c.a) != c.want {
			t.Errorf("Same(%v, %v) isn't %v", c.a, c.b, c.want)
		}
	}
}

func TestText(t *testing.T) {
	for _, c := range []struct {
		l    zone.Zone
		want string
	}{
		{zone.Zone{all}, "all"},
		{zone.Zone{disc(0, 0, 5), half(1, 0, 3), and}, "disc 0 0 5,half 1 0 3,and"},
		{zone.Zone{all, not, disc(1, 1, 0), or}, "all,not,disc 1 1 0,or"},
		{zone.Zone{disc(null, null, null)}, "disc 0 0 0"},
		{zone.Zone{half(-1000, 1000, -2000000)}, "half -1000 1000 -2000000"},
		{zone.Zone{half(100, 20, 2000000)}, "half 100 20 2000000"},
		{zone.Zone{disc(-7, 10, 2000)}, "disc -7 10 2000"},
		{zone.Zone{half(null, 7, null)}, "half 0 7 0"},
	} {
		if got := zone.Text(c.l); got != c.want {
			t.Errorf("Text(%v) = %q", c.l, got)
		}
		if l, ok := zone.Parse(c.want); !ok || !slices.Equal(l, c.l) {
			t.Errorf("Parse(%q) = %v, %v", c.want, l, ok)
		}
	}
}

func TestParseOfRightZones(t *testing.T) {
	for _, l := range rightOnes() {
		if got, ok := zone.Parse(zone.Text(l)); !ok || !slices.Equal(got, l) {
			t.Errorf("%v comes back as %v, %v", l, got, ok)
		}
	}
	most := "half -1000 -1000 -2000000" + strings.Repeat(",not", 31)
	if l, ok := zone.Parse(most); !ok || len(l) != api.MaxZone || zone.Text(l) != most {
		t.Error("32 steps")
	}
	if l, ok := zone.Parse(most + ",not"); ok || l != nil {
		t.Error("33 steps")
	}
}

func TestParseOfOtherTexts(t *testing.T) {
	for _, s := range []string{
		"", " ", ",", "all,", ",all", "all,,not", " all", "all ", "all, not", "all ,not", "all  ", "all\n", "all\x00", "All", "ALL", "al", "alls", "1", "all 0 0 0", "all 0", "not 0",
		"not", "and", "or", "all,all", "all,and", "all,or", "not,all", "all,all,all,and", "nor", "all,no",
		"disc", "disc ", "disc 0", "disc 0 0", "disc 0 0 ", "disc 0 0 5 ", "disc 0 0 5 6", "disc  0 0 5", "disc 0  0 5", " disc 0 0 5", "disc,0,0,5", "disc\t0 0 5", "disc0 0 5",
		"disc 0 0 -1", "disc 0 0 2001", "disc 1001 0 1", "disc -1001 0 1", "disc 0 1001 1", "disc 0 -1001 1",
		"disc 00 0 1", "disc -0 0 1", "disc 0 -0 1", "disc 0 0 -0", "disc 0 0 05", "disc 01 0 5", "disc -01 0 5", "disc +1 0 5", "disc 0 0 +5", "disc 0 0 --5", "disc - 0 5", "disc 0 0 -",
		"disc 0x1 0 5", "disc 1_0 0 5", "disc 1e1 0 5", "disc 1.0 0 5", "disc 0.5 0 5", "disc a 0 5", "disc 0 b 5", "disc 0 0 c", "disc NaN 0 5", "disc inf 0 5", "disc 0 0 \xff",
		"disc ٣ 0 5", "disc 99999999999999999999 0 5", "disc 0 0 18446744073709551616", "disc 18446744073709551617 0 5", "disc 0 0 9223372036854775807", "disc 0 0 -9223372036854775808",
		"half", "half 1 0", "half 1 0 3 4", "half 1001 0 3", "half 0 -1001 3", "half 0 0 2000001", "half 0 0 -2000001", "half 1 0 -0", "half 1 0 03", "half 1 0 +3",
		"disc 0 0 5,half 1 0 3,and,", "disc 0 0 5,half 1 0 3", "disc 0 0 5;half 1 0 3;and", "disc 0 0 5 half 1 0 3 and", "disc 0 0 5,half 1 0 3,AND",
	} {
		if l, ok := zone.Parse(s); ok || l != nil {
			t.Errorf("Parse(%q) = %v, %v", s, l, ok)
		}
	}
}

// Of all texts of a few signs, just those are parsed that are some zone's.
func TestParseOfAllShortTexts(t *testing.T) {
	words := []string{"all", "not", "and", "or", "disc", "0", "-1", " ", ","}
	texts := []string{""}
	parsed := 0
	for i := 0; i < len(texts); i++ {
		l, ok := zone.Parse(texts[i])
		if ok {
			parsed++
		}
		if ok != zone.Right(l) || zone.Text(l) != texts[i] && ok {
			t.Fatalf("Parse(%q) = %v, %v", texts[i], l, ok)
		}
		if len(texts) < 100000 {
			for _, w := range words {
				texts = append(texts, texts[i]+w)
			}
		}
	}
	// all; all,not; all,not,not; all,all,and and all,all,or have 5 words at most
	if parsed != 5 {
		t.Errorf("%d were parsed", parsed)
	}
}

func TestAllNumbersOfPlaces(t *testing.T) {
	for n := -api.MaxSpot - 3; n <= api.MaxSpot+3; n++ {
		s := strconv.Itoa(n)
		for _, text := range []string{"half " + s + " 0 1", "half 0 " + s + " 1", "disc " + s + " 0 1", "disc 0 " + s + " 1"} {
			l, ok := zone.Parse(text)
			if ok != (n >= -api.MaxSpot && n <= api.MaxSpot) || ok && zone.Text(l) != text {
				t.Fatalf("Parse(%q) = %v, %v", text, l, ok)
			}
		}
	}
}

func TestZonesHandedInStayAndAreNotShared(t *testing.T) {
	for _, l := range append(rightOnes(), wrongOnes()...) {
		whole := append(slices.Clone(l), disc(8, 8, 8), not)
		kept := slices.Clone(whole)
		part := whole[:len(l)]
		zone.Right(part)
		zone.Has(part, complex(1, 1))
		zone.Text(part)
		zone.Same(part, part)
		for i := range whole {
			if x, y := whole[i], kept[i]; x != y && x.At == x.At && x.Size == x.Size {
				t.Fatalf("%v became %v", kept, whole)
			}
		}
	}
}

func TestAnswersAreNew(t *testing.T) {
	for range 2 {
		everywhere := zone.Everywhere()
		parsed, ok := zone.Parse("all,not")
		if !ok || !slices.Equal(everywhere, zone.Zone{all}) || !slices.Equal(parsed, zone.Zone{all, not}) {
			t.Fatal(everywhere, parsed)
		}
		for _, l := range []zone.Zone{everywhere[:cap(everywhere)], parsed[:cap(parsed)]} {
			for i := range l {
				l[i] = disc(9, 9, 9)
			}
		}
	}
}

func TestNoCallPanics(t *testing.T) {
	odd := []float64{0, null, 0.5, 1001, 1e300, math.MaxFloat64, math.Inf(1), math.Inf(-1), math.NaN()}
	zones := append(rightOnes(), wrongOnes()...)
	for _, l := range zones {
		for _, x := range odd {
			for _, y := range odd {
				zone.Has(l, complex(x, y))
			}
		}
		for _, m := range zones {
			zone.Same(l, m)
		}
	}
	for _, s := range []string{strings.Repeat(",", 100000), strings.Repeat(" ", 100000), strings.Repeat("all,", 100000), "disc " + strings.Repeat("9", 100000) + " 0 0"} {
		if _, ok := zone.Parse(s); ok {
			t.Error(s[:9])
		}
	}
}
