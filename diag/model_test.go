package diag_test

import (
	"errors"
	"math"
	"math/big"
	"math/rand"
	"slices"
	"testing"

	"flong/api"
	"flong/diag"
)

// clipped is a + b, however great, as a place that may be.
func clipped(a, b int) int {
	sum := new(big.Int).Add(big.NewInt(int64(a)), big.NewInt(int64(b)))
	switch {
	case sum.Sign() < 0:
		return 0
	case sum.Cmp(big.NewInt(far)) > 0:
		return far
	}
	return int(sum.Int64())
}

func clippedDiag(d api.Diag, lines, cols int) api.Diag {
	return at(d.Kind, clipped(d.Line, lines), clipped(d.Col, cols))
}

func number(r *rand.Rand) int {
	switch r.Intn(8) {
	case 0:
		return math.MaxInt - r.Intn(3)
	case 1:
		return math.MinInt + r.Intn(3)
	case 2:
		return far + r.Intn(5) - 2
	case 3:
		return 2 - far - r.Intn(5)
	case 4:
		return int(r.Uint64())
	}
	return r.Intn(21) - 10
}

// grow makes an error, and, one move at a time, what All tells of it.
func grow(r *rand.Rand, deep int) (error, []api.Diag) {
	pick := r.Intn(8)
	if deep == 0 {
		pick = r.Intn(3)
	}
	switch pick {
	case 0:
		return nil, nil
	case 1, 2:
		d := at(r.Intn(6), number(r), number(r))
		if d.Kind == 0 {
			return diag.Tell(d), nil
		}
		return diag.Tell(d), []api.Diag{clippedDiag(d, 0, 0)}
	case 3, 4, 5:
		e, l := grow(r, deep-1)
		lines, cols := number(r), number(r)
		for i := range l {
			l[i] = clippedDiag(l[i], lines, cols)
		}
		return diag.Move(e, lines, cols), l
	}
	var all []error
	var told []api.Diag
	for range r.Intn(4) {
		e, l := grow(r, deep-1)
		all = append(all, e)
		told = append(told, l...)
	}
	if pick == 6 {
		return errors.Join(all...), told
	}
	return diag.Join(all...), told
}

func TestAllAsOneMoveAtATime(t *testing.T) {
	r := rand.New(rand.NewSource(1))
	for range 20000 {
		e, want := grow(r, 8)
		same(t, "grown", e, want...)
		if t.Failed() {
			return
		}
	}
}

func TestDeepAndWide(t *testing.T) {
	const deep = 1<<16 - 1
	e := diag.New(3, 5, 5)
	for range deep {
		e = diag.Move(e, 1, -1)
	}
	same(t, "deep", e, at(3, 5+deep, 0))
	e = diag.New(3, 0, 0)
	want := []api.Diag{}
	for i := range deep / 2 {
		e = diag.Move(diag.Join(diag.New(3, 0, 0), e), 1, 1)
		want = append(want, at(3, i+1, i+1))
	}
	want = append(want, at(3, deep/2, deep/2))
	if got := diag.All(e); !slices.Equal(got, want) {
		t.Error("deep and wide")
	}
	if e.Error() == "" {
		t.Error("no text")
	}
	wide := make([]error, 1<<16)
	for i := range wide {
		wide[i] = diag.New(3, i, i)
	}
	l := diag.All(diag.Move(diag.Join(wide...), 1, 1))
	if len(l) != 1<<16 || l[1<<16-1] != at(3, 1<<16, 1<<16) {
		t.Error("wide")
	}
}

func TestFirstWithoutTheOthers(t *testing.T) {
	e := diag.New(3, 1, 2)
	for range 60 {
		e = diag.Join(e, e)
	}
	if line, col := diag.Place(e); diag.Kind(e) != 3 || line != 1 || col != 2 || !diag.Is(e, 3) {
		t.Error("the first of many")
	}
}
