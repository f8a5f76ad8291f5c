package transfer_test

import (
	"math"
	"math/rand"
	"slices"
	"testing"

	"raddle/api"
	"raddle/transfer"
)

// message returns a message of strips.
func message(sender, receiver int, l ...transfer.Strip) transfer.Message {
	return transfer.Message{Sender: sender, Receiver: receiver, Strips: l}
}

// strip returns a strip by its five fields.
func strip(from, stride, to, step, count int) transfer.Strip {
	return transfer.Strip{From: from, Stride: stride, To: to, Step: step, Count: count}
}

// parts returns lists of some lengths.
func parts(sizes []int) [][]int {
	l := make([][]int, len(sizes))
	for i, n := range sizes {
		l[i] = make([]int, max(n, 0))
	}
	return l
}

// checked asks Check and Apply for the error of a plan.
func checked(t *testing.T, what string, p transfer.Plan, senders, receivers []int, want api.Errno) {
	t.Helper()
	if e := transfer.Check(p, senders, receivers); e != want {
		t.Errorf("%s: Check(%v, %v, %v) = %v, want %v", what, p, senders, receivers, e, want)
	}
	if slices.ContainsFunc(append(slices.Clone(senders), receivers...), func(n int) bool { return n < 0 || n > 100000 }) {
		return
	}
	l, e := transfer.Apply(p, parts(senders), parts(receivers))
	if e != want || want != api.OK && len(l) != 0 || want == api.OK && len(l) != len(receivers) {
		t.Errorf("%s: Apply(%v, %v, %v) = %v, %v, want %v", what, p, senders, receivers, l, e, want)
	}
}

// TestCheck asks for plans that break each of the conditions.
func TestCheck(t *testing.T) {
	one := strip(0, 0, 0, 0, 1)
	for what, c := range map[string]struct {
		p         transfer.Plan
		senders   []int
		receivers []int
		want      api.Errno
	}{
		"nothing":                     {nil, nil, nil, api.OK},
		"an element":                  {transfer.Plan{message(0, 0, one)}, []int{1}, []int{1}, api.OK},
		"all strides of one element":  {transfer.Plan{message(0, 0, strip(1, math.MinInt, 1, math.MaxInt, 1))}, []int{2}, []int{2}, api.OK},
		"one element, many times":     {transfer.Plan{message(0, 0, strip(1, 0, 0, 1, 3))}, []int{2}, []int{3}, api.OK},
		"backwards":                   {transfer.Plan{message(0, 0, strip(4, -2, 2, -1, 3))}, []int{5}, []int{3}, api.OK},
		"behind, downwards":           {transfer.Plan{message(0, 0, strip(4, -2, 0, 1, 4))}, []int{5}, []int{5}, transfer.ErrPlan},
		"behind, at the receiver":     {transfer.Plan{message(0, 0, strip(0, 1, 2, -1, 4))}, []int{5}, []int{5}, transfer.ErrPlan},
		"no strips":                   {transfer.Plan{message(0, 0)}, []int{1}, []int{1}, transfer.ErrPlan},
		"a second one without strips": {transfer.Plan{message(0, 0, one), message(0, 1)}, []int{1}, []int{1, 1}, transfer.ErrPlan},
		"no count":                    {transfer.Plan{message(0, 0, strip(0, 0, 0, 0, 0))}, []int{1}, []int{1}, transfer.ErrPlan},
		"count below 0":               {transfer.Plan{message(0, 0, strip(0, 0, 0, 0, -1))}, []int{1}, []int{1}, transfer.ErrPlan},
		"least count":                 {transfer.Plan{message(0, 0, strip(0, 0, 0, 0, math.MinInt))}, []int{1}, []int{1}, transfer.ErrPlan},
		"greatest count":              {transfer.Plan{message(0, 0, strip(0, 1, 0, 1, 5000))}, []int{5000}, []int{5000}, api.OK},
		"count 5001":                  {transfer.Plan{message(0, 0, strip(0, 0, 0, 0, 5001))}, []int{5000}, []int{5000}, transfer.ErrPlan},
		"very large count":            {transfer.Plan{message(0, 0, strip(0, 0, 0, 0, math.MaxInt))}, []int{5000}, []int{5000}, transfer.ErrPlan},
		"count that wraps":            {transfer.Plan{message(0, 0, strip(0, 1<<62, 0, 1<<62, 5))}, []int{5000}, []int{5000}, transfer.ErrPlan},
		"stride that wraps":           {transfer.Plan{message(0, 0, strip(0, 1<<62, 0, 1, 5))}, []int{9}, []int{9}, transfer.ErrPlan},
		"step that wraps":             {transfer.Plan{message(0, 0, strip(0, 1, 0, math.MinInt, 3))}, []int{9}, []int{9}, transfer.ErrPlan},
		"no sender":                   {transfer.Plan{message(1, 0, one)}, []int{1}, []int{1}, transfer.ErrPlan},
		"no receiver":                 {transfer.Plan{message(0, 1, one)}, []int{1}, []int{1}, transfer.ErrPlan},
		"sender below 0":              {transfer.Plan{message(-1, 0, one)}, []int{1}, []int{1}, transfer.ErrPlan},
		"receiver below 0":            {transfer.Plan{message(0, -1, one)}, []int{1}, []int{1}, transfer.ErrPlan},
		"far ends":                    {transfer.Plan{message(math.MinInt, math.MaxInt, one)}, []int{1}, []int{1}, transfer.ErrPlan},
		"from behind the part":        {transfer.Plan{message(0, 0, strip(1, 0, 0, 0, 1))}, []int{1}, []int{2}, transfer.ErrPlan},
		"from ahead of the part":      {transfer.Plan{message(0, 0, strip(-1, 0, 0, 0, 1))}, []int{1}, []int{2}, transfer.ErrPlan},
		"to behind the part":          {transfer.Plan{message(0, 0, strip(0, 0, 2, 0, 1))}, []int{9}, []int{2}, transfer.ErrPlan},
		"to ahead of the part":        {transfer.Plan{message(0, 0, strip(0, 0, -1, 0, 1))}, []int{9}, []int{2}, transfer.ErrPlan},
		"of an empty part":            {transfer.Plan{message(0, 0, one)}, []int{0}, []int{2}, transfer.ErrPlan},
		"written twice by a strip":    {transfer.Plan{message(0, 0, strip(0, 1, 1, 0, 2))}, []int{2}, []int{2}, transfer.ErrPlan},
		"written twice by strips":     {transfer.Plan{message(0, 0, strip(0, 1, 0, 1, 3), strip(3, 0, 2, 0, 1))}, []int{4}, []int{4}, transfer.ErrPlan},
		"written twice by messages":   {transfer.Plan{message(0, 0, strip(0, 1, 0, 1, 3)), message(1, 0, strip(0, 0, 1, 0, 1))}, []int{4, 4}, []int{4}, transfer.ErrPlan},
		"same number, two receivers":  {transfer.Plan{message(0, 0, one), message(0, 1, one)}, []int{4, 4}, []int{4, 4}, api.OK},
		"a pair twice":                {transfer.Plan{message(0, 0, one), message(0, 0, strip(1, 0, 1, 0, 1))}, []int{4}, []int{4}, transfer.ErrPlan},
		"senders descend":             {transfer.Plan{message(1, 0, one), message(0, 1, one)}, []int{4, 4}, []int{4, 4}, transfer.ErrPlan},
		"receivers descend":           {transfer.Plan{message(0, 1, one), message(0, 0, one)}, []int{4, 4}, []int{4, 4}, transfer.ErrPlan},
		"receivers begin again":       {transfer.Plan{message(0, 1, one), message(1, 0, one)}, []int{4, 4}, []int{4, 4}, api.OK},
		"a sender's size below 0":     {nil, []int{0, -1}, []int{0}, transfer.ErrPlan},
		"a receiver's size below 0":   {nil, []int{0}, []int{math.MinInt}, transfer.ErrPlan},
		"a sender's size too large":   {nil, []int{5001}, []int{0}, transfer.ErrPlan},
		"a receiver's size too large": {nil, []int{5000}, []int{5000, 5001}, transfer.ErrPlan},
		"greatest sizes":              {nil, []int{5000, 5000}, []int{5000}, api.OK},
		"eight and eight":             {nil, make([]int, 8), make([]int, 8), api.OK},
		"nine senders":                {nil, make([]int, 9), nil, api.ErrCount},
		"nine receivers":              {nil, nil, make([]int, 9), api.ErrCount},
		"nine receivers, all else":    {transfer.Plan{message(-1, 0)}, []int{-1}, make([]int, 9), api.ErrCount},
	} {
		checked(t, what, c.p, c.senders, c.receivers, c.want)
	}
}

// TestLimits asks for the limits of messages and strips, which come first.
func TestLimits(t *testing.T) {
	var all transfer.Plan
	for s := range 8 {
		for r := range 8 {
			all = append(all, message(s, r, strip(0, 0, s, 0, 1)))
		}
	}
	eight := slices.Repeat([]int{8}, 8)
	checked(t, "64 messages", all, eight, eight, api.OK)
	checked(t, "65 messages", append(slices.Clone(all), message(0, 0)), eight, eight, api.ErrCount)
	checked(t, "65 messages, wrong sizes", append(slices.Clone(all), message(0, 0)), []int{-1}, nil, api.ErrCount)
	var many [3][]transfer.Strip
	for i := range many {
		for k := range 5000 {
			many[i] = append(many[i], strip(k, 0, k, 0, 1))
		}
	}
	sizes := []int{5000, 5000, 5000}
	full := transfer.Plan{message(0, 0, many[0]...), message(1, 1, many[1]...)}
	checked(t, "10000 strips", full, sizes, sizes, api.OK)
	checked(t, "10001 strips", append(full, message(2, 2, strip(0, 0, 0, 0, 1))), sizes, sizes, api.ErrCount)
	checked(t, "10001 strips, wrong sizes", append(full, message(2, 2, strip(0, 0, 0, 0, 1))), []int{5001}, nil, api.ErrCount)
	checked(t, "10000 strips, wrong sizes", full, []int{5001, 5001}, sizes, transfer.ErrPlan)
}

// wrong returns whether a plan within the limits is wrong, as the definition says.
func wrong(p transfer.Plan, senders, receivers []int) bool {
	written := map[[2]int]bool{}
	for i, m := range p {
		if i > 0 && (m.Sender < p[i-1].Sender || m.Sender == p[i-1].Sender && m.Receiver <= p[i-1].Receiver) {
			return true
		}
		if m.Sender < 0 || m.Sender >= len(senders) || m.Receiver < 0 || m.Receiver >= len(receivers) || len(m.Strips) == 0 {
			return true
		}
		for _, s := range m.Strips {
			if s.Count < 1 {
				return true
			}
			for k := range s.Count {
				from, to := s.From+k*s.Stride, s.To+k*s.Step
				if from < 0 || from >= senders[m.Sender] || to < 0 || to >= receivers[m.Receiver] || written[[2]int{m.Receiver, to}] {
					return true
				}
				written[[2]int{m.Receiver, to}] = true
			}
		}
	}
	return false
}

// TestAnyPlans compares the errors of many small plans, and what right ones do.
func TestAnyPlans(t *testing.T) {
	r := rand.New(rand.NewSource(8))
	rights := 0
	for range 60000 {
		senders, receivers := []int{r.Intn(5), 2, 4}, []int{3, r.Intn(5), 6}
		var p transfer.Plan
		for range r.Intn(4) {
			m := message(r.Intn(3), r.Intn(3))
			for range 1 + r.Intn(2) {
				m.Strips = append(m.Strips, strip(r.Intn(4), r.Intn(4)-1, r.Intn(4), r.Intn(5)-2, 1+r.Intn(3)))
			}
			p = append(p, m)
		}
		slices.SortStableFunc(p, func(a, b transfer.Message) int { return 3*(a.Sender-b.Sender) + a.Receiver - b.Receiver })
		want := api.OK
		if wrong(p, senders, receivers) {
			want = transfer.ErrPlan
		}
		checked(t, "any plan", p, senders, receivers, want)
		if want == api.OK {
			rights++
			applied(t, p, senders, receivers)
		}
	}
	if rights < 2000 {
		t.Errorf("only %d plans are right", rights)
	}
}

// applied compares what a right plan does.
func applied(t *testing.T, p transfer.Plan, senders, receivers []int) {
	t.Helper()
	from, to := parts(senders), parts(receivers)
	for i, part := range from {
		for k := range part {
			part[k] = 100*i + k + 1
		}
	}
	want := parts(receivers)
	for _, m := range p {
		for _, s := range m.Strips {
			for k := range s.Count {
				want[m.Receiver][s.To+k*s.Step] = from[m.Sender][s.From+k*s.Stride]
			}
		}
	}
	if l, e := transfer.Apply(p, from, to); !lists(l, want) || e != api.OK {
		t.Errorf("Apply(%v, %v, %v) = %v, %v, want %v", p, from, to, l, e, want)
	}
}

// TestErrors hands wrong domains to every function: the errors of both come ahead of the limit of indices, and all of them ahead of the rest.
func TestErrors(t *testing.T) {
	ten, block := row(0, 9, 1), api.Map{Kind: api.Block}
	right, square := with(block, ten), with(block, ten, ten)
	large, huge := with(block, row(0, 5000, 1)), with(block, row(-most, most, 1), row(-most, most, 1))
	form, home := with(block, row(0, 9, 2)), with(api.Map{Home: 3}, ten)
	for _, c := range []struct {
		from, to api.Domain
		locales  int
		want     api.Errno
	}{
		{right, right, 0, api.ErrRange}, {form, home, 9, api.ErrRange}, {right, square, -1, api.ErrRange}, {large, right, math.MaxInt, api.ErrRange},
		{form, home, 3, api.ErrForm}, {home, form, 3, 70}, {right, home, 3, 70}, {right, form, 3, api.ErrForm}, {square, form, 3, api.ErrForm},
		{large, form, 3, api.ErrForm}, {huge, home, 3, 70}, {large, right, 3, api.ErrLarge}, {right, large, 3, api.ErrLarge}, {square, huge, 3, api.ErrLarge}, {huge, right, 3, api.ErrLarge},
		{with(block), right, 3, api.ErrCount}, {right, with(block, ten, ten, ten), 3, api.ErrCount},
		{right, square, 3, api.ErrCount}, {square, right, 3, api.ErrCount}, {with(block, none), with(block, none, none), 3, api.ErrCount},
	} {
		if p, e := transfer.Move(c.from, c.to, c.locales); len(p) != 0 || e != c.want {
			t.Errorf("Move(%v, %v, %d) = %v, %v, want %v", c.from, c.to, c.locales, p, e, c.want)
		}
		if p, e := transfer.Assign(c.from, c.to, c.locales); len(p) != 0 || e != c.want {
			t.Errorf("Assign(%v, %v, %d) = %v, %v, want %v", c.from, c.to, c.locales, p, e, c.want)
		}
		if n, l, e := transfer.Least(c.from, c.to, c.locales); n != 0 || len(l) != 0 || e != c.want {
			t.Errorf("Least(%v, %v, %d) = %d, %v, %v, want %v", c.from, c.to, c.locales, n, l, e, c.want)
		}
	}
	for _, c := range []struct {
		d       api.Domain
		locales int
		want    api.Errno
	}{{form, 0, api.ErrRange}, {form, 3, api.ErrForm}, {home, 3, 70}, {large, 3, api.ErrLarge}, {huge, 8, api.ErrLarge}} {
		if l, e := transfer.Scatter(c.d, c.locales, nil); len(l) != 0 || e != c.want {
			t.Errorf("Scatter(%v, %d) = %v, %v, want %v", c.d, c.locales, l, e, c.want)
		}
		if l, e := transfer.Gather(c.d, c.locales, nil); len(l) != 0 || e != c.want {
			t.Errorf("Gather(%v, %d) = %v, %v, want %v", c.d, c.locales, l, e, c.want)
		}
	}
}

// TestGreatest asks for plans of as many elements as an array may have.
func TestGreatest(t *testing.T) {
	from, to := with(api.Map{Kind: api.Hashed}, row(1, 50, 1), row(1, 100, 1)), with(api.Map{Kind: api.Hashed}, row(0, 49, 1), row(2, 200, 2))
	p, e := transfer.Assign(from, to, 8)
	if e != api.OK || transfer.Check(p, counts(from, 8), counts(to, 8)) != api.OK {
		t.Errorf("Assign of 5000 elements = %v", e)
	}
	l := elements(from, 1)
	got, e := transfer.Apply(p, scattered(from, 8, l), scattered(to, 8, make([]int, 5000)))
	if !lists(got, scattered(to, 8, l)) || e != api.OK {
		t.Errorf("Apply of 5000 elements = %v", e)
	}
}
