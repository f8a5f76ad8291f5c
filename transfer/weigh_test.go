package transfer_test

import (
	"math"
	"math/big"
	"math/rand"
	"testing"

	"raddle/api"
	"raddle/transfer"
)

// small returns a float as a number with as many bits as those have, rounded to the nearest even one.
func small(x float64) *big.Float {
	return new(big.Float).SetPrec(24).SetMode(big.ToNearestEven).SetFloat64(x)
}

// weight returns the weight of a plan, by numbers of 24 bits.
func weight(p transfer.Plan, latency, element, strip float32) uint32 {
	sum := small(0)
	for _, m := range p {
		if m.Sender == m.Receiver {
			continue
		}
		sum.Add(sum, small(float64(latency)))
		for _, s := range m.Strips {
			if s.Count <= 0 {
				continue
			}
			sum.Add(sum, small(float64(strip)))
			count := small(0).SetInt64(int64(s.Count))
			sum.Add(sum, small(0).Mul(small(float64(element)), count))
		}
	}
	x, _ := sum.Float32()
	return math.Float32bits(x)
}

// anyPlan returns a plan with messages and strips of all counts.
func anyPlan(r *rand.Rand) transfer.Plan {
	var p transfer.Plan
	for range r.Intn(6) {
		m := message(r.Intn(3), r.Intn(3))
		for range r.Intn(5) {
			count := r.Intn(7) - 2
			if r.Intn(3) == 0 {
				count = r.Intn(1 << 30)
			}
			m.Strips = append(m.Strips, strip(0, 0, 0, 0, count))
		}
		p = append(p, m)
	}
	return p
}

// TestWeigh compares the weights of many plans.
func TestWeigh(t *testing.T) {
	r := rand.New(rand.NewSource(88))
	for range 20000 {
		p := anyPlan(r)
		latency, element, strip := float32(r.ExpFloat64()*1000), float32(r.NormFloat64()), float32(r.NormFloat64()*10)
		want := weight(p, latency, element, strip)
		if got := transfer.Weigh(p, math.Float32bits(latency), math.Float32bits(element), math.Float32bits(strip)); got != want {
			t.Errorf("Weigh(%v, %v, %v, %v) = %x, want %x", p, latency, element, strip, got, want)
		}
	}
}

// TestRounding asks for the rounding of each operation.
func TestRounding(t *testing.T) {
	of := func(x float32) uint32 { return math.Float32bits(x) }
	plan := func(counts ...int) transfer.Plan {
		m := message(0, 1)
		for _, n := range counts {
			m.Strips = append(m.Strips, strip(0, 0, 0, 0, n))
		}
		return transfer.Plan{m}
	}
	for _, c := range []struct {
		p                             transfer.Plan
		latency, element, strip, want uint32
	}{
		{nil, of(1), of(1), of(1), 0},
		{plan(), of(2.5), of(7), of(7), of(2.5)},
		{plan(3), of(2), of(4), of(8), of(22)},
		{plan(0, -3, math.MinInt), of(2), of(4), of(8), of(2)},
		{transfer.Plan{message(1, 1, strip(0, 0, 0, 0, 5))}, of(2), of(4), of(8), 0},
		{transfer.Plan{message(math.MaxInt, math.MinInt, strip(0, 0, 0, 0, 5))}, of(2), of(4), of(8), of(30)},
		// 2^24 + 1 is no float32: neither as a count, nor as a sum.
		{plan(16777217), 0, of(1), 0, of(16777216)},
		{plan(16777219), 0, of(1), 0, of(16777220)},
		{plan(1), of(16777216), of(1), 0, of(16777216)},
		{plan(1), of(16777216), of(1), of(1), of(16777216)},
		{plan(1, 1), of(16777216), of(1), 0, of(16777216)},
		{plan(2), of(16777216), of(1), 0, of(16777218)},
		// The product is rounded: 2^24 + 1/2 would leave 1/2.
		{plan(3), of(-16777216), of(5592405.5), 0, of(0)},
		{plan(math.MaxInt), 0, of(1), 0, of(9223372036854775807)},
		{plan(1), of(math.SmallestNonzeroFloat32), of(math.SmallestNonzeroFloat32), 0, of(2 * math.SmallestNonzeroFloat32)},
		{plan(2), 0, of(math.MaxFloat32), 0, 0x7f800000},
		{plan(), 0x80000000, 0, 0, 0},
		{plan(1), 0x7f800000, 0xff800000, 0, 0x7fc00000},
		{plan(1), 0x7f800000, 0, 0, 0x7f800000},
		{plan(1), 0xff800000, 0, 0, 0xff800000},
		{plan(1), 0x7fc00001, 0, 0, 0x7fc00000},
		{plan(1), 0, 0xffc12345, 0, 0x7fc00000},
		{plan(1), 0, 0, 0x7f800001, 0x7fc00000},
		{plan(0), 0, 0x7f800001, 0x7f800001, 0},
		{transfer.Plan{message(2, 2, strip(0, 0, 0, 0, 5))}, 0x7fc00001, 0x7fc00001, 0x7fc00001, 0},
	} {
		if got := transfer.Weigh(c.p, c.latency, c.element, c.strip); got != c.want {
			t.Errorf("Weigh(%v, %x, %x, %x) = %x, want %x", c.p, c.latency, c.element, c.strip, got, c.want)
		}
	}
}

// TestHeavier asks that more latency, or more elements, do not make a plan lighter.
func TestHeavier(t *testing.T) {
	r := rand.New(rand.NewSource(888))
	for range 20000 {
		p := anyPlan(r)
		latency, element, strip := float32(r.ExpFloat64()), float32(r.ExpFloat64()), float32(r.ExpFloat64())
		weigh := func(latency, element, strip float32) float32 {
			return math.Float32frombits(transfer.Weigh(p, math.Float32bits(latency), math.Float32bits(element), math.Float32bits(strip)))
		}
		old, more := weigh(latency, element, strip), 1+float32(r.ExpFloat64())
		if later := weigh(latency*more, element, strip); later < old {
			t.Errorf("more latency makes %v from %v", later, old)
		}
		for _, m := range p {
			for i := range m.Strips {
				m.Strips[i].Count = max(m.Strips[i].Count, 0) + r.Intn(9)
			}
		}
		if later := weigh(latency, element, strip); later < old {
			t.Errorf("more elements make %v from %v", later, old)
		}
	}
}

// TestLinear asks that the weight of plans of layer 5's maps tells messages and elements.
func TestLinear(t *testing.T) {
	pairs(func(from, to api.Domain, locales int) {
		p, _ := transfer.Move(from, to, locales)
		messages, elements := transfer.Cost(p)
		one := math.Float32bits(1)
		if got := transfer.Weigh(p, one, 0, 0); got != math.Float32bits(float32(messages)) {
			t.Errorf("Weigh of %d messages = %x", messages, got)
		}
		if got := transfer.Weigh(p, 0, one, 0); got != math.Float32bits(float32(elements)) {
			t.Errorf("Weigh of %d elements = %x", elements, got)
		}
	})
}
