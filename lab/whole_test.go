package lab

import (
	"strings"
	"testing"

	"viceroy/api"
)

// The ten examples of the whole, as scripts; the first one is the document's own.

func TestWholeMessages(t *testing.T) {
	saying(t, "boot 64 1 1 0/prog 5 0 0 0 0/share 4 0 3 0/code movi r0, 1/code svc 4/"+
		"prog 4 0 0 0 0/share 4 0 2 7/code movi r0, 1/code movi r1, 1/code movi r2, 42/code svc 2/"+
		"start/steps 2/steps 4/reg 1 0/reg 1 1/reg 1 2/sound", "ok/6 0/6 0/7/1/42/0")
}

// guarded is of a thread, whose things begin at 1, that handles the traps of a guest, whose things begin at 6; the endpoint is 12.
func guarded(handler, guest string) string {
	return "boot 64 1 1 0/prog 6 0 0 0 0/share 4 0 1 0/share 8 1 0 0/" + coded(handler) +
		"prog 5 0 1 1 0/share 4 0 10 3/" + coded(guest) + "start/"
}

func TestWholeTraps(t *testing.T) {
	saying(t, guarded("movi r0, 1,, svc 4,, movi r1, 1,, movi r2, 4,, svc 6,, movi r0, 1,, svc 4", "hvc 9,, movi r7, 8")+
		"steps 2/step/reg 1 0/reg 1 1/reg 1 2/reg 1 3/state 6/sound/who/steps 3/reg 6 16/steps 2/who/step/reg 6 7/sound",
		"ok/6 0/5 101/3/84/9/0/4 1 on/0/1/6 0/4/6 0/6/0 0/8/0")
}

// injects is of a handler that injects 5, of the priority 20, and 6, of the priority 10, which are level-flagged, if its register 4 is not 0.
const injects = "movi r0, 2,, movi r1, 275,, movi r2, 5,, movi r3, 20,, svc 2,, movi r2, 6,, movi r3, 10,, svc 2,, movi r0, 1,, svc 4"

func TestWholeInterrupts(t *testing.T) {
	saying(t, guarded(injects, "iar r1,, eoi r1,, iar r2,, eoi r2,, iar r3")+"steps 10/steps 5/reg 6 1/reg 6 2/reg 6 3/sound", "ok/6 0/0 0/6/5/1023/0")
	saying(t, guarded("movi r4, 1,, "+injects, "iar r1,, eoi r1")+"steps 11/steps 2/reg 1 0/reg 1 1/reg 1 2/sound", "ok/6 0/10 101/3/164/6/0")
}

// TestWholeMemory: the first one makes a frame in the slot 4 of the other's node, and deletes it, again and again; that one maps it, reads it, and writes there.
func TestWholeMemory(t *testing.T) {
	saying(t, "boot 64 1 0 0/piece 4/"+
		"prog 5 0 0 0 0/share 1 0 0 0/share 2 1 0 0/"+
		coded("movi r0, 1,, movi r1, 20,, movi r2, 6,, movi r3, 1,, movi r4, 4,, movi r5, 1,, movi r6, 2,, svc 2,, wfi,, movi r0, 2,, movi r1, 81,, movi r2, 4,, svc 2,, jmp 0")+
		"prog 5 0 0 0 0/share 7 1 0 0/"+
		coded("movi r0, 4,, movi r1, 194,, movi r2, 9,, movi r3, 7,, movi r6, 1,, svc 2,, movi r7, 576,, ldr r8, [r7 + 0],, str r7, [r7 + 0],, ldr r8, [r7 + 0],, wfi,, jmp 0")+
		"start/steps 9/slot 7 4/steps 8/reg 6 8/steps 2/reg 6 8/word 768/sound/step/steps 4/slot 7 4/word 768/sound/steps 10/slot 7 4/word 768/who/steps 7/steps 2/reg 6 8/step/word 768/sound",
		"ok/9 0/6 12 7 0/0 0/0/0 0/576/576/0/9 0/6 0/0 0 0 0/576/0/9 0/6 12 7 0/0/6/6 0/0 0/0/0 0/576/0")
}

func TestWholeDeletion(t *testing.T) {
	saying(t, "boot 64 1 0 0/piece 1/piece 8/"+
		"prog 5 0 0 0 0/share 1 0 0 0/share 2 1 0 0/"+
		coded("movi r0, 1,, movi r1, 20,, movi r2, 2,, movi r3, 1,, movi r4, 4,, movi r5, 1,, movi r6, 2,, svc 2,, wfi,, movi r0, 2,, movi r1, 81,, movi r2, 4,, svc 2")+
		"prog 5 0 0 0 0/share 1 1 0 0/"+
		coded("movi r0, 1,, movi r1, 20,, movi r2, 4,, movi r3, 1,, movi r5, 8,, movi r6, 4,, svc 2,, wfi")+
		"start/steps 9/slot 7 4/steps 8/slot 11 0/slot 11 7/sound/steps 4/slot 11 0/slot 11 1/slot 11 2/reg 1 16/sound/step/slot 11 0/slot 7 4/reg 1 15/reg 1 16/sound",
		"ok/9 0/2 11 0 0/9 0/4 16 11 0/4 23 11 0/0/6 3/4 16 11 0/4 17 11 0/0 0 0 0/48/0/6 0/error 120/0 0 0 0/0/52/0")
}

func TestWholeDevices(t *testing.T) {
	saying(t, "boot 64 1 0 0/prog 5 0 0 0 1/share 9 3 0 0/share 7 0 0 0/"+
		coded("movi r0, 1,, movi r1, 320,, movi r6, 2,, svc 2,, movi r1, 336,, svc 2")+
		"start/write 3 65 9/steps 4/write 3 65 9/word 384/sound/steps 2/write 3 65 8/word 384/sound",
		"ok/0 101/6 0/9 0/2304/0/6 0/0 101/2304/0")
}

// TestUnseen: how few list registers there are, and when buffers forget, changes nothing of what a script says.
func TestUnseen(t *testing.T) {
	d := &dice{x: 3}
	played := 0
	for range 2500 {
		script := strings.Join(d.script(), lineEnd)
		want, _, e := Run(script)
		orders, err := read(script)
		if e != api.OK || err != nil {
			t.Fatal(script, e, err)
		}
		var b bench
		got := ""
		for _, o := range orders {
			if lrs := b.boot.Lrs; lrs >= 1 && lrs <= api.MaxLrs {
				b.boot.Lrs = 1 + d.throw(api.MaxLrs)
			}
			for range d.throw(9) {
				if b.machine != nil {
					b.machine.Event(api.Event{Kind: api.EvEvict, N: d.throw(api.TlbEntries)})
					played++
				}
			}
			if text := o.do(&b, o); text != nothing {
				got += text + lineEnd
			}
		}
		if got != want {
			t.Fatalf("%q: %q, not %q", script, got, want)
		}
	}
	if played < 1000 {
		t.Error(played)
	}
}
