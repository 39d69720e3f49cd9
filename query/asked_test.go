package query_test

import (
	"slices"
	"sync"
	"testing"

	"merestone/api"
	"merestone/query"
)

// A question is a call that is counted, those that are refused too.
type question struct {
	name string
	ask  func(x *query.Index)
}

// questionsOfHalves are all kinds of calls, with all errors.
func questionsOfHalves() []question {
	return []question{
		{"Locate", func(x *query.Index) { x.Locate(at(2, 2)) }},
		{"Locate outside", func(x *query.Index) { x.Locate(at(9, 9)) }},
		{"Locate, ErrRange", func(x *query.Index) { x.Locate(at(limit+1, 0)) }},
		{"Window", func(x *query.Index) { x.Window(box(1, 1, 3, 3)) }},
		{"Window of many cells", func(x *query.Index) { x.Window(box(-limit, -limit, limit, limit)) }},
		{"Window outside", func(x *query.Index) { x.Window(box(7, 7, 8, 8)) }},
		{"Window, ErrRange", func(x *query.Index) { x.Window(box(0, 0, limit+1, 0)) }},
		{"Window, ErrArg", func(x *query.Index) { x.Window(box(1, 0, 0, 0)) }},
		{"Pairs", func(x *query.Index) { x.Pairs() }},
		{"Border", func(x *query.Index) { x.Border(1, 2) }},
		{"Border the other way", func(x *query.Index) { x.Border(2, 1) }},
		{"Border, ErrNone", func(x *query.Index) { x.Border(1, 3) }},
		{"Border, ErrNone of both", func(x *query.Index) { x.Border(0, 0) }},
		{"Border, ErrArg", func(x *query.Index) { x.Border(1, 1) }},
	}
}

func giveAsked(t *testing.T, what string, x *query.Index, want int) {
	t.Helper()
	if got := x.Asked(); got != want {
		t.Errorf("%s: Asked %d, not %d", what, got, want)
	}
}

// One more for each, be it the first one or a later one; to ask how many there were is none of them.
func TestAskedOfEachCall(t *testing.T) {
	for _, q := range questionsOfHalves() {
		x := made(t, q.name, halves())
		for n := range 5 {
			giveAsked(t, q.name, x, n)
			giveAsked(t, q.name, x, n)
			q.ask(x)
		}
		giveAsked(t, q.name, x, 5)
	}
}

func TestAskedOfAllCalls(t *testing.T) {
	x := made(t, "halves", halves())
	count := 0
	for range 7 {
		for _, q := range questionsOfHalves() {
			q.ask(x)
			count++
			giveAsked(t, q.name, x, count)
		}
	}
}

// Each index counts its own calls, be they of the same plan.
func TestAskedOfTwo(t *testing.T) {
	p := halves()
	x, y := made(t, "halves", p), made(t, "halves", p)
	for _, q := range questionsOfHalves() {
		q.ask(x)
	}
	giveAsked(t, "the other one", y, 0)
	y.Pairs()
	giveAsked(t, "the other one", y, 1)
	giveAsked(t, "the first one", x, len(questionsOfHalves()))
	giveAsked(t, "a third one", made(t, "halves", p), 0)
}

// Calls that come at one time are all counted.
func TestAskedBySeveralAtOneTime(t *testing.T) {
	const askers, rounds = 16, 3000
	list := []func(x *query.Index){
		func(x *query.Index) { x.Locate(at(limit+1, 0)) },
		func(x *query.Index) { x.Border(0, 0) },
		func(x *query.Index) { x.Window(box(1, 0, 0, 0)) },
		func(x *query.Index) { x.Pairs() },
	}
	x := made(t, "halves", halves())
	together(askers, func(i int) {
		last := 0
		for n := range rounds {
			list[(i+n)%len(list)](x)
			if now := x.Asked(); now <= last {
				t.Errorf("Asked %d behind %d", now, last)
			} else {
				last = now
			}
		}
	})
	giveAsked(t, "at one time", x, askers*rounds)
}

// together does something by several at one time.
func together(askers int, do func(i int)) {
	var all sync.WaitGroup
	start := make(chan int)
	for i := range askers {
		all.Go(func() {
			<-start
			do(i)
		})
	}
	close(start)
	all.Wait()
}

// Whoever asks first, and whoever comes while the cells are put in order, has the same answer.
func TestFirstAskedBySeveralAtOneTime(t *testing.T) {
	plans := []api.Plan{mustPlan(t, block(at(-limit, -limit), size, 8, 8)), mustPlan(t, block(at(-limit, -limit), 2*limit, 1, 1)), halves(), spread().plan(gate())}
	points, windows := []api.Point{at(0, 0), at(2, 2), at(limit, limit), at(-limit, 7)}, []api.Window{box(-limit, -limit, limit, limit), box(1, 1, 3, 3), box(-size-1, 0, size, 0)}
	for n, p := range plans {
		want := answers(made(t, "alone", p), p, points, windows)
		for round := range 60 {
			x := made(t, "at one time", p)
			var list [12]string
			together(len(list), func(i int) {
				switch (i + round) % 4 {
				case 0:
					x.Window(windows[i%len(windows)])
				case 1:
					x.Pairs()
				case 2:
					x.Locate(points[i%len(points)])
				}
				list[i] = answers(x, p, points, windows)
			})
			if i := slices.IndexFunc(list[:], func(answer string) bool { return answer != want }); i >= 0 {
				t.Fatalf("plan %d, at one time: %s, not %s", n, list[i], want)
			}
			asked := len(points) + len(windows) + 1 + len(p.Parcels)*len(p.Parcels)
			giveAsked(t, "at one time", x, len(list)*asked+9)
		}
	}
}
