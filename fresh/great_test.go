package fresh_test

import (
	"runtime"
	"strconv"
	"testing"

	"gantline/code"
	"gantline/fresh"
)

// P11.1: every stretch of so many cases, each of which sends or receives a slot of its own.
func TestSetsStretches(t *testing.T) {
	for _, count := range []int{1, 2, 3, 4, 5, 6, 7, 8, 9, 13, 16, 17} {
		var m code.Module
		var list []code.Instr
		for k := range count {
			list = append(list, made(k))
		}
		at := len(list)
		for k := range count {
			m.Cases = append(m.Cases, code.Case{Kind: k % 2, Val: k, Target: at + 1 + k})
		}
		f := function(count, append(list, make([]code.Instr, count+1)...)...)
		for k := range count {
			f.Code[at+1+k] = end()
		}
		for first := range count + 1 {
			for n := range count + 1 - first {
				f.Code[at] = choose(first, n)
				where := "stretch " + strconv.Itoa(first) + " " + strconv.Itoa(n) + " of " + strconv.Itoa(count)
				wantPlain(t, where, m, f)
				for k, list := range fresh.Sets(m, f)[at+1:] {
					inside := k >= first && k < first+n
					for slot, x := range list {
						kept := slot < first || slot >= first+n
						if want := (fresh.State{Own: inside && kept}); x != want {
							t.Fatalf("%s: slot %d at case %d's target: %v, want %v", where, slot, k, x, want)
						}
					}
				}
			}
		}
	}
}

// P11.1: selects whose cases overlap, each with states of its own, meet at the cases' targets.
func TestSetsOverlaps(t *testing.T) {
	for _, count := range []int{2, 3, 5, 8, 11} {
		for gap := range count {
			var m code.Module
			f := function(4, made(0), made(1), set(2, 7, 3), when(3, 6), code.Instr{Op: 35, B: 0}, choose(0, count-gap), set(1, 5, 3), choose(gap, count-gap))
			for k := range count {
				m.Cases = append(m.Cases, code.Case{Kind: 2, Target: len(f.Code)})
				f.Code = append(f.Code, code.Instr{Op: 42, A: k}, end())
			}
			wantPlain(t, "overlaps", m, f)
			sets := fresh.Sets(m, f)
			for k := range count {
				want := "- - - -"
				switch left, right := k < count-gap, k >= gap; {
				case left && right:
					want = "- O20 80 -"
				case left:
					want = "- O 80 -"
				case right:
					want = "O O20 80 -"
				}
				if got := tell(sets[m.Cases[k].Target]); got != want {
					t.Errorf("%d cases, %d apart, case %d: %s, want %s", count, gap, k, got, want)
				}
			}
		}
	}
}

// P11.1: a way that goes back step by step is gone along once, not once for each step.
func TestSetsLongWayBack(t *testing.T) {
	const n = 100_000
	f := function(2, append([]code.Instr{made(0), jump(n - 1), end()}, make([]code.Instr, n-3)...)...)
	for pc := 3; pc < n; pc++ {
		f.Code[pc] = jump(pc - 1)
	}
	for pc, list := range fresh.Sets(code.Module{}, f)[1:] {
		if got := tell(list); got != "YO -" {
			t.Fatalf("at %d: %s", pc+1, got)
		}
	}
}

// P11.1: ways that part and meet again and again, where each has something to tell.
func TestSetsManyDiamonds(t *testing.T) {
	const n = 50_000
	f := function(64, made(0))
	for k := range n {
		f.Code = append(f.Code, when(63, len(f.Code)+2), set(k%61, k%59, 62))
	}
	f.Code = append(f.Code, end())
	want := make([]uint64, 64)
	for k, list := range fresh.Sets(code.Module{}, f)[1:] {
		if k%2 == 0 {
			for slot, x := range list {
				if x.Written != want[slot] || x.Own != (slot == 0) {
					t.Fatalf("ahead of %d: slot %d: %v, want %x", k/2, slot, x, want[slot])
				}
			}
			want[k/2%61] |= 1 << (k / 2 % 59)
		}
	}
}

// taken is how much memory a call takes in all.
func taken(call func()) uint64 {
	var before, behind runtime.MemStats
	runtime.ReadMemStats(&before)
	call()
	runtime.ReadMemStats(&behind)
	return behind.TotalAlloc - before.TotalAlloc
}

// R1: many selects that share many cases take memory for selects and cases, not for selects times cases.
func TestSetsSharedCases(t *testing.T) {
	const n = 1 << 13
	m, f := code.Module{Cases: make([]code.Case, n)}, function(4, made(0), made(1), made(2))
	for k := range n {
		m.Cases[k] = code.Case{Kind: 2, Target: 3 + k}
		f.Code = append(f.Code, choose(k%2, n-100+k%100))
	}
	m.Cases[50] = code.Case{Kind: 1, Val: 0, Target: 53}
	m.Cases[60] = code.Case{Kind: 0, Val: 1, Target: 63}
	f.Code[n/2] = set(2, 6, 3)
	var sets [][]fresh.State
	if got := taken(func() { sets = fresh.Sets(m, f) }); got > 1<<26 {
		t.Errorf("Sets took %d bytes", got)
	}
	ahead := []string{"- - - -", "YO - - -", "O YO - -"}
	for pc, list := range sets {
		// Each of the selects is come to by all the others.
		want := "- - O40 -"
		if pc < len(ahead) {
			want = ahead[pc]
		}
		if got := tell(list); got != want {
			t.Fatalf("at %d: %s, want %s", pc, got, want)
		}
	}
}
