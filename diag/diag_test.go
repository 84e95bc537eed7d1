package diag_test

import (
	"errors"
	"fmt"
	"math"
	"slices"
	"testing"

	"flong/api"
	"flong/diag"
)

const far = api.MaxPlace

func at(kind, line, col int) api.Diag {
	return api.Diag{Kind: kind, Line: line, Col: col}
}

// same holds what All, Kind, Place and Is tell of e against what is wanted.
func same(t *testing.T, what string, e error, want ...api.Diag) {
	t.Helper()
	got := diag.All(e)
	if !slices.Equal(got, want) {
		t.Errorf("%s: All is %v, want %v", what, got, want)
	}
	var first api.Diag
	if len(want) > 0 {
		first = want[0]
	}
	line, col := diag.Place(e)
	if told := at(diag.Kind(e), line, col); told != first {
		t.Errorf("%s: Kind and Place are %v, want %v", what, told, first)
	}
	for kind := -1; kind <= 20; kind++ {
		is := slices.ContainsFunc(want, func(d api.Diag) bool { return d.Kind == kind })
		if diag.Is(e, kind) != is {
			t.Errorf("%s: Is of %d is %v", what, kind, !is)
		}
	}
}

func TestClip(t *testing.T) {
	for _, c := range [][2]int{{math.MinInt, 0}, {-1, 0}, {0, 0}, {1, 1}, {far - 1, far - 1}, {far, far}, {far + 1, far}, {math.MaxInt, far}} {
		if got := diag.Clip(c[0]); got != c[1] {
			t.Errorf("Clip of %d is %d, want %d", c[0], got, c[1])
		}
	}
}

func TestNew(t *testing.T) {
	if e := diag.New(0, 3, 4); e != nil {
		t.Errorf("of kind 0: %v", e)
	}
	for _, c := range [][2]api.Diag{
		{at(7, 3, 4), at(7, 3, 4)},
		{at(7, 0, 0), at(7, 0, 0)},
		{at(-1, 1, 1), at(-1, 1, 1)},
		{at(7, -1, far+1), at(7, 0, far)},
		{at(7, far, far), at(7, far, far)},
		{at(7, math.MaxInt, math.MinInt), at(7, far, 0)},
	} {
		same(t, "New", diag.New(c[0].Kind, c[0].Line, c[0].Col), c[1])
		same(t, "Tell", diag.Tell(c[0]), c[1])
	}
	for _, kind := range []int{math.MinInt, math.MaxInt} {
		if e := diag.New(kind, 1, 1); diag.Kind(e) != kind || !diag.Is(e, kind) || diag.Is(e, 0) {
			t.Errorf("kind %d", kind)
		}
	}
}

func TestTellNothing(t *testing.T) {
	if e := diag.Tell(at(0, 5, 6)); e != nil {
		t.Errorf("of kind 0: %v", e)
	}
}

func TestNil(t *testing.T) {
	if e := diag.Move(nil, 1, 2); e != nil {
		t.Errorf("Move: %v", e)
	}
	same(t, "nil", nil)
	if l := diag.All(nil); len(l) != 0 {
		t.Errorf("All: %v", l)
	}
}

func TestMove(t *testing.T) {
	e := diag.New(7, 3, 4)
	for _, c := range []struct{ lines, cols, line, col int }{
		{2, 0, 5, 4},
		{0, 0, 3, 4},
		{-1, 1, 2, 5},
		{-3, -4, 0, 0},
		{-4, -5, 0, 0},
		{far - 3, far - 4, far, far},
		{far, far, far, far},
		{math.MaxInt, math.MinInt, far, 0},
		{math.MinInt, math.MaxInt, 0, far},
	} {
		same(t, "Move", diag.Move(e, c.lines, c.cols), at(7, c.line, c.col))
	}
	same(t, "what was moved", e, at(7, 3, 4))
}

func TestMoveClipsEachSum(t *testing.T) {
	e := diag.New(3, 1, far-1)
	same(t, "below, and back", diag.Move(diag.Move(e, -5, 0), 2, 0), at(3, 2, far-1))
	same(t, "above, and back", diag.Move(diag.Move(e, 0, 7), 0, -2), at(3, 1, far-2))
	same(t, "beyond an int, and back", diag.Move(diag.Move(e, math.MinInt, math.MaxInt), 1, -1), at(3, 1, far-1))
	same(t, "and from the outermost in", diag.Move(diag.Move(e, 5, -9), -7, 20), at(3, 0, far))
	twice := diag.Move(diag.Move(e, math.MaxInt, math.MaxInt), math.MaxInt, math.MaxInt)
	same(t, "beyond an int twice", twice, at(3, far, far))
	same(t, "and below", diag.Move(diag.Move(twice, math.MinInt, math.MinInt), math.MinInt, math.MinInt), at(3, 0, 0))
	over := diag.Move(diag.Move(diag.Move(e, -far, -far), far, far), 1, 1)
	same(t, "both ends", over, at(3, far, far))
	same(t, "one less", diag.Move(over, -1, -1), at(3, far-1, far-1))
}

func TestMovedTwiceIsMovedByBoth(t *testing.T) {
	e := diag.Join(diag.New(7, 30, 40), diag.New(8, 50, 60))
	for _, m := range [][4]int{{1, 2, 3, 4}, {-1, 2, -3, 4}, {10, -10, -20, 20}, {0, 0, 5, 5}} {
		twice := diag.All(diag.Move(diag.Move(e, m[0], m[1]), m[2], m[3]))
		if once := diag.All(diag.Move(e, m[0]+m[2], m[1]+m[3])); !slices.Equal(once, twice) {
			t.Errorf("%v: %v, and %v", m, once, twice)
		}
	}
}

func TestMoveWraps(t *testing.T) {
	e := diag.New(7, 3, 4)
	if errors.Unwrap(diag.Move(e, 0, 0)) != e {
		t.Error("moved by nothing: not wrapped")
	}
	m := diag.Move(e, 1, 1)
	if errors.Unwrap(diag.Move(m, 2, 2)) != m {
		t.Error("moved twice: not wrapped")
	}
	if !errors.Is(diag.Move(m, 2, 2), e) || errors.Is(m, diag.New(7, 9, 9)) {
		t.Error("errors.Is")
	}
	other := errors.New("other")
	if !errors.Is(diag.Move(other, 1, 1), other) {
		t.Error("an error from elsewhere is not wrapped")
	}
}

func TestJoin(t *testing.T) {
	a, b, c := diag.New(1, 1, 1), diag.New(2, 2, 2), diag.New(3, 3, 3)
	if diag.Join() != nil || diag.Join(nil) != nil || diag.Join(nil, nil) != nil || diag.Join([]error{}...) != nil {
		t.Error("of nothing")
	}
	same(t, "one", diag.Join(nil, a, nil), at(1, 1, 1))
	same(t, "in order", diag.Join(c, nil, a, b), at(3, 3, 3), at(1, 1, 1), at(2, 2, 2))
	same(t, "one twice", diag.Join(a, a), at(1, 1, 1), at(1, 1, 1))
	e := diag.Join(a, b)
	if !errors.Is(e, a) || !errors.Is(e, b) || errors.Is(e, c) {
		t.Error("errors.Is")
	}
}

func TestJoinedInWhicheverWay(t *testing.T) {
	a, b, c := diag.New(1, 1, 1), diag.New(2, 2, 2), diag.New(3, 3, 3)
	for i, e := range []error{
		diag.Join(a, b, c),
		diag.Join(diag.Join(a, b), c),
		diag.Join(a, diag.Join(b, c)),
		diag.Join(diag.Join(nil, diag.Join(a)), diag.Join(b, nil), diag.Join(diag.Join(c))),
		errors.Join(a, errors.Join(b, diag.Join(c))),
		diag.Join(errors.Join(a, nil, b), fmt.Errorf("ahead of %w", c)),
	} {
		same(t, fmt.Sprint("way ", i), e, at(1, 1, 1), at(2, 2, 2), at(3, 3, 3))
		same(t, fmt.Sprint("way ", i, ", moved"), diag.Move(e, 10, 20), at(1, 11, 21), at(2, 12, 22), at(3, 13, 23))
	}
}

func TestMoveIsOfWhatItIsAround(t *testing.T) {
	a, b := diag.New(3, 1, 2), diag.New(5, 9, 0)
	e := diag.Move(diag.Join(diag.Move(a, 4, 0), nil, b), -2, 1)
	same(t, "mixed", e, at(3, 3, 3), at(5, 7, 1))
	same(t, "beside", diag.Join(e, a), at(3, 3, 3), at(5, 7, 1), at(3, 1, 2))
	same(t, "around one from elsewhere", diag.Move(fmt.Errorf("in %w, %w", diag.Move(a, 1, 1), b), 10, 10), at(3, 12, 13), at(5, 19, 10))
}

func TestFromElsewhere(t *testing.T) {
	other := errors.New("other")
	a, b := diag.New(3, 1, 2), diag.New(5, 9, 0)
	same(t, "nothing in it", other)
	same(t, "nothing in it, moved", diag.Move(other, 1, 1))
	same(t, "nothing in it, joined", diag.Join(other, other))
	same(t, "beside", diag.Join(other, a, diag.Move(other, 1, 1), b), at(3, 1, 2), at(5, 9, 0))
}

// claims says that it is any error, and hands out none.
type claims struct{ inside error }

func (c claims) Error() string { return "claims" }
func (c claims) Is(error) bool { return true }
func (c claims) As(any) bool   { return true }
func (c claims) Unwrap() error { return c.inside }

// claimsAlone is one that wraps nothing.
type claimsAlone struct{}

func (claimsAlone) Error() string { return "claims alone" }
func (claimsAlone) Is(error) bool { return true }
func (claimsAlone) As(any) bool   { return true }

// stands is an error that may stand for another one.
type stands struct{ inside error }

func (s stands) Error() string  { return "stands" }
func (s stands) As(to any) bool { return errors.As(s.inside, to) }

// list can't be compared.
type list []error

func (l list) Error() string   { return "list" }
func (l list) Unwrap() []error { return l }

// faulty panics whatever it is asked.
type faulty struct{ l []error }

func (f *faulty) Error() string { return "faulty" }
func (f *faulty) Is(error) bool { panic("Is") }
func (f *faulty) As(any) bool   { panic("As") }

type faultyAround struct{ faulty }

func (f *faultyAround) Unwrap() error { panic("Unwrap") }

type faultyList struct{ faulty }

func (f *faultyList) Unwrap() []error { return f.l }

func TestAnyError(t *testing.T) {
	a, b := diag.New(3, 1, 2), diag.New(5, 9, 0)
	same(t, "claims", claims{inside: a}, at(3, 1, 2))
	same(t, "claims nothing", claims{})
	same(t, "claims alone", diag.Join(claimsAlone{}, b), at(5, 9, 0))
	same(t, "stands for one", diag.Move(stands{inside: a}, 1, 1), at(3, 2, 3))
	same(t, "no list", list(nil))
	same(t, "list", list{nil, a, nil, diag.Move(b, 1, 1)}, at(3, 1, 2), at(5, 10, 1))
	var none *faultyList
	for i, e := range []error{&faulty{}, (*faulty)(nil), &faultyAround{}, (*faultyAround)(nil), none} {
		same(t, fmt.Sprint("faulty ", i), e)
		same(t, fmt.Sprint("faulty, moved ", i), diag.Move(e, 1, 1))
		same(t, fmt.Sprint("faulty, joined ", i), diag.Join(e, a, e, b), at(3, 1, 2), at(5, 9, 0))
	}
}

func TestSorted(t *testing.T) {
	if len(diag.Sorted()) != 0 || len(diag.Sorted([]api.Diag{}...)) != 0 {
		t.Error("of nothing")
	}
	in := []api.Diag{at(2, 1, 0), at(1, 1, 0), at(9, 0, 0), at(1, 1, -1), at(1, 1, 0), at(0, 5, 5), at(7, 0, math.MaxInt), at(7, math.MinInt, 3), at(math.MinInt, 0, 0), at(7, math.MaxInt, 0)}
	was := slices.Clone(in)
	want := []api.Diag{at(7, math.MinInt, 3), at(math.MinInt, 0, 0), at(9, 0, 0), at(7, 0, math.MaxInt), at(1, 1, -1), at(1, 1, 0), at(1, 1, 0), at(2, 1, 0), at(0, 5, 5), at(7, math.MaxInt, 0)}
	out := diag.Sorted(in...)
	if !slices.Equal(out, want) {
		t.Errorf("Sorted is %v, want %v", out, want)
	}
	if !slices.Equal(in, was) {
		t.Error("what was handed in is changed")
	}
	if again := diag.Sorted(out...); !slices.Equal(again, want) {
		t.Error("sorted twice")
	}
}

func TestNothingIsShared(t *testing.T) {
	a, b := diag.New(3, 1, 2), diag.New(5, 9, 0)
	in := []error{a, nil, b}
	e := diag.Join(in...)
	in[0], in[1] = b, b
	same(t, "the list handed in", e, at(3, 1, 2), at(5, 9, 0))
	full := []error{a, b}
	e = diag.Join(full...)
	full[0], full[1] = nil, nil
	same(t, "a list without nil", e, at(3, 1, 2), at(5, 9, 0))
	if l := e.(interface{ Unwrap() []error }).Unwrap(); len(l) == 2 {
		l[0], l[1] = b, nil
	}
	same(t, "the list of what is wrapped", e, at(3, 1, 2), at(5, 9, 0))
	diag.All(e)[0].Kind = 9
	same(t, "the list of All", e, at(3, 1, 2), at(5, 9, 0))
	l := []api.Diag{at(1, 1, 1)}
	diag.Sorted(l...)[0].Kind = 9
	if l[0].Kind != 1 {
		t.Error("Sorted hands out what it was given")
	}
}

func TestTexts(t *testing.T) {
	a, b := diag.New(3, 1, 2), diag.New(5, 9, 0)
	for _, c := range []struct {
		e    error
		want string
	}{
		{a, "kind 3, line 1, column 2"},
		{b, "kind 5, line 9"},
		{diag.New(4, 0, 0), "kind 4"},
		{diag.New(4, 0, 2), "kind 4, line 0, column 2"},
		{diag.Move(a, 1, 1), "kind 3, line 2, column 3"},
		{diag.Move(diag.Join(a, b), 1, 0), "kind 3, line 2, column 2; kind 5, line 10"},
		{diag.Join(a, b), "kind 3, line 1, column 2; kind 5, line 9"},
		{diag.Join(errors.New("other")), "nothing told"},
	} {
		if got := c.e.Error(); got != c.want {
			t.Errorf("%q, want %q", got, c.want)
		}
	}
}

func TestExample(t *testing.T) {
	same(t, "the chapter's", diag.Move(diag.New(7, 3, 4), 2, 0), at(7, 5, 4))
}
