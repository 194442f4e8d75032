package confine

import (
	"math"
	"testing"

	"viceroy/api"
)

func TestMayExample(t *testing.T) {
	w := start(t, example())
	if !May(w.Kernel, 1, 5, api.Exec) || May(w.Kernel, 1, 5, api.Write) || May(w.Kernel, 2, 5, api.Read) {
		t.Error("who may")
	}
}

// lent is a descriptor of a thread that gives the stream 3 its space, maps its second frame of data at the page 9 with Exec alone too, and waits.
func lent() api.Boot {
	return api.Boot{Frames: 64, Lrs: 1, Endpoints: 1, Progs: []api.Prog{
		{Priority: 5, Data: 2, Shares: []api.Share{
			{Kind: api.Stream, N: 3}, {Kind: api.Table, N: 0}, {Kind: api.Frame, N: 1, Rights: 5}, {Kind: api.Endpoint, N: 0, Rights: 3},
		}, Code: code("movi r0, 1\nmovi r1, 320\nmovi r6, 2\nsvc 2\n" +
			"movi r0, 3\nmovi r1, 194\nmovi r2, 9\nmovi r3, 4\nsvc 2\n" +
			"movi r0, 1\nmovi r1, 336\nsvc 2\n" + // the stream is detached
			"movi r0, 4\nsvc 4")},
		{Priority: 4, Data: 1},
	}}
}

// has tells which rights of a frame somebody has: each must be told for itself.
func has(may func(frame, want int) bool, frame int) int {
	rights := 0
	for _, want := range []int{api.Read, api.Write, api.Exec} {
		if may(frame, want) {
			rights |= want
		}
	}
	return rights
}

func TestMay(t *testing.T) {
	w := start(t, lent())
	for thread, rights := range map[int]map[int]int{
		1: {5: 5, 6: 3, 7: 3},
		8: {12: 5, 13: 3},
		2: {}, 0: {}, -1: {}, 7: {}, 9: {}, math.MaxInt: {}, math.MinInt: {},
	} {
		for frame := -1; frame <= 65; frame++ {
			if n := has(func(frame, want int) bool { return May(w.Kernel, thread, frame, want) }, frame); n != rights[frame] {
				t.Errorf("the thread %d has %d of the frame %d, not %d", thread, n, frame, rights[frame])
			}
		}
	}
	w.steps(9)
	// A second page of the frame 7 gives it what the first one has not.
	if n := has(func(frame, want int) bool { return May(w.Kernel, 1, frame, want) }, 7); n != 7 {
		t.Error("two pages give", n)
	}
}

func TestDevice(t *testing.T) {
	w := start(t, lent())
	of := func(stream int) func(frame, want int) bool {
		return func(frame, want int) bool { return Device(w.Kernel, stream, frame, want) }
	}
	all := func(rights map[int]int) {
		t.Helper()
		for _, stream := range []int{math.MinInt, -1, 0, 1, 2, 3, 4, 15, 16, math.MaxInt} {
			for frame := -1; frame <= 65; frame++ {
				want := rights[frame]
				if stream != 3 {
					want = 0
				}
				if n := has(of(stream), frame); n != want {
					t.Errorf("the stream %d has %d of the frame %d, not %d", stream, n, frame, want)
				}
			}
		}
	}
	all(nil)
	w.steps(4)
	all(map[int]int{5: 5, 6: 3, 7: 3})
	w.steps(5)
	all(map[int]int{5: 5, 6: 3, 7: 7})
	w.steps(3)
	all(nil)
}

// TestMayWrongWants asks for what no access wants, of a frame with all rights.
func TestMayWrongWants(t *testing.T) {
	w := start(t, lent())
	w.steps(9)
	for _, want := range []int{math.MinInt, -1, -8, 0, 3, 5, 6, 7, 8, 9, 16, math.MaxInt} {
		if May(w.Kernel, 1, 7, want) || Device(w.Kernel, 3, 7, want) {
			t.Error("may", want)
		}
	}
	for _, frame := range []int{math.MinInt, -1, 64, 1024, math.MaxInt} {
		if May(w.Kernel, 1, frame, api.Read) || Device(w.Kernel, 3, frame, api.Read) {
			t.Error("has", frame)
		}
	}
}

// TestMayHangsOnTheSpace takes a thread's space away: it has nothing any more.
func TestMayHangsOnTheSpace(t *testing.T) {
	b := api.Boot{Frames: 64, Lrs: 1, Progs: []api.Prog{
		{Priority: 5, Shares: []api.Share{{Kind: api.CNode, N: 1}}, Code: code("movi r0, 1\nmovi r1, 81\nmovi r2, 1\nsvc 2")},
		{Priority: 4, Data: 1, Shares: []api.Share{{Kind: api.Table, N: 1}}},
	}}
	w := start(t, b)
	if !May(w.Kernel, 6, 10, api.Exec) || !May(w.Kernel, 6, 11, api.Write) {
		t.Fatal("it has nothing")
	}
	w.steps(4)
	if May(w.Kernel, 6, 10, api.Exec) || May(w.Kernel, 6, 11, api.Write) || !May(w.Kernel, 1, 5, api.Exec) {
		t.Error("who may")
	}
	if v := See(w.Kernel); v.Threads[1].Vmid != 0 || len(v.Maps) != 1 || len(v.Tables) != 2 || Check(b, v) != 0 {
		t.Error(v)
	}
}
