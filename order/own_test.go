package order

import (
	"math"
	"slices"
	"testing"

	"arborist/api"
)

const room = 77

// withRoom hands out a list with room behind it, as a call that appends to it would write there.
func withRoom[T any](l []T, behind T) []T { return append(slices.Clone(l), behind, behind)[:len(l)] }

func intact[T comparable](in, was []T, behind T) bool {
	return slices.Equal(in, was) && slices.Equal(in[:len(in)+2][len(in):], []T{behind, behind})
}

func overwriteList[T any](l []T, with T) {
	l = l[:cap(l)]
	for i := range l {
		l[i] = with
	}
}

func TestValidKeepsNothing(t *testing.T) {
	for _, was := range lists(4, -1, 4) {
		l := withRoom(was, room)
		first := Valid(len(l), l)
		if !intact(l, was, room) {
			t.Fatalf("changed: %v from %v", l, was)
		}
		overwriteList(l, 0)
		if again := Valid(len(was), was); again != first {
			t.Fatalf("%v: %v, then %v", was, first, again)
		}
	}
}

func TestOfKeepsNothing(t *testing.T) {
	for _, s := range append(smallOnes(4), greatOnes()[:8]...) {
		was := s.graph().Adj
		for how := range 5 {
			g := api.Graph{Adj: withRoom(was, room)}
			got, e := Of(g, how)
			want := slices.Clone(got)
			if !intact(g.Adj, was, room) {
				t.Fatalf("way %d, changed: %v from %v", how, g.Adj, was)
			}
			overwriteList(g.Adj, 1000)
			if !slices.Equal(got, want) {
				t.Fatalf("way %d: the answer hangs on what was handed in: %v, not %v", how, got, want)
			}
			overwriteList(got, -9)
			again, f := Of(api.Graph{Adj: was}, how)
			if !slices.Equal(again, want) || f != e {
				t.Fatalf("way %d: the answer is kept: %v %v, not %v %v", how, again, f, want, e)
			}
		}
	}
}

// Of graphs that are not right nothing is promised, but that the call ends without a panic, and of what is no way.
func TestWrongGraphsEnd(t *testing.T) {
	full := make([]uint64, 100)
	for i := range full {
		full[i] = math.MaxUint64
	}
	for _, adj := range [][]uint64{{1}, {2}, {3, 0}, {6, 0, 0}, {0, 1 << 63}, {math.MaxUint64}, full[:3], full[:40], full[:41], full[:64], full[:65], full} {
		g := api.Graph{Adj: adj}
		for _, how := range ways() {
			Of(g, how)
		}
		if l, e := Of(g, 0); e != api.ErrArg || len(l) != 0 {
			t.Errorf("%v: %v %v", adj, l, e)
		}
	}
}
