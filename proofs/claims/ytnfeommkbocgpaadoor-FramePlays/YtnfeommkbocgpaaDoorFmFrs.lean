/- Frames of package frame. -/
import Derived.Test.YtnfeommkbocgpaaDoorFmTop
namespace Go.Proofs.YtnfeommkbocgpaaDoor
open Go.RowKit Go.Maps Go.ChangeShapes Go.WideShapes Go.ChangeAt Go.Deep

/-- What of a frame can be told. -/
def pf (f : Fr) : Int × Int × List Int := (f.fn, f.pc, f.sl)
theorem fr_take (L : List Fr) (k : Nat) (f : Fr) (h : L[k]? = some f) : L.take (k + 1) = L.take k ++ [f] := by rw [List.take_add_one, h]; rfl
/-- The answer in the making: the first k frames anew. -/
def FsI (w : World) (L : List Fr) (k : Nat) (v : Value) (x : World) : Prop := ∃ L', RK x w.heap.size v L' ∧ L'.map pf = (L.take k).map pf ∧ G w x
theorem mk_frames (n : Nat) (hn : n ≤ 1000) (w : World) : ∃ C, (Instr.makeSlice 48 (.int .i64 0) (.int .i64 (n : Int))).run Tryd.prog w = .ok (.slice (some ⟨w.heap.size, 0, none⟩) 0 n) (w.alloc (.cells C 46)) ∧ C.size = n * 3 := by
  obtain ⟨i, hi, hz, hs, hb⟩ := info_parts info_frame
  have := run_make (P := Tryd.prog) w 48 46 i _ Tryd.underlying48 hi hz .i64 .i64 0 (n : Int) (by omega) (by omega) (by rw [hb]; omega) (by omega)
  simp only [Int.toNat_natCast, Int.toNat_zero] at this
  exact ⟨_, this, by rw [size_madeCells, hs]⟩
theorem fs_start (w x : World) (L : List Fr) (g : G w x) (C : Array Value) (n : Nat) (hn : n ≤ 1000) (hC : C.size = n * 3) : FsI w L 0 (.slice (some ⟨x.heap.size, 0, none⟩) 0 n) (x.alloc (.cells C 46)) := by
  refine ⟨[], ⟨⟨rfl, Or.inr ⟨x.heap.size, n, C, rfl, g.size, heap_alloc_new x _, Nat.zero_le _, by unfold maxLen; omega, hC, by simp [frCs]⟩⟩, (fun f h => by cases h), (fun q _ f h => by cases h), List.nodup_nil⟩, rfl, g.more _⟩
theorem fs_step {w x y : World} {L : List Fr} {k : Nat} {v : Value} (h : FsI w L k v x) {f : Fr} (hf : L[k]? = some f) (hL : L.length ≤ 1000) (gy : G x y) (b c : Nat) (z : World) (hz : CpTo y f b c z) :
    ∃ kb c2 x3, (Builtin.append_ #[48, 48] 48 #[v, .slice (some ⟨z.heap.size, 0, none⟩) 1 1]).run Tryd.prog (z.alloc (.cells #[.int .i64 f.fn, .int .i64 f.pc, .slice (some ⟨b, 0, none⟩) f.sl.length c] 46)) = .ok (.slice (some ⟨kb, 0, none⟩) (k + 1) c2) x3 ∧ FsI w L (k + 1) (.slice (some ⟨kb, 0, none⟩) (k + 1) c2) x3 := by
  obtain ⟨L', h1, h2, h3⟩ := h
  have hlen : L'.length = k := by
    have := congrArg List.length h2
    have hk := (List.getElem?_eq_some_iff.1 hf).1
    simp at this
    omega
  have hk := (List.getElem?_eq_some_iff.1 hf).1
  have gz := (gy.trans hz.2).more (.cells #[.int .i64 f.fn, .int .i64 f.pc, .slice (some ⟨b, 0, none⟩) f.sl.length c] 46)
  have hlo := own_lo hz.1
  have own2 : (z.alloc (.cells #[.int .i64 f.fn, .int .i64 f.pc, .slice (some ⟨b, 0, none⟩) f.sl.length c] 46)).ownsRow w.heap.size 2 1 (.slice (some ⟨b, 0, none⟩) f.sl.length c) f.sl.length (f.sl.map (Value.int .i64)) := by
    have q1 := own_keep1 hz.1 ((G.alloc z (.cells #[.int .i64 f.fn, .int .i64 f.pc, .slice (some ⟨b, 0, none⟩) f.sl.length c] 46)).block _ (own_lt hz.1))
    refine ⟨q1.1, ?_⟩
    rcases q1.2 with h' | ⟨g', cap', cur, h', hb2, hr⟩
    · exact Or.inl h'
    · exact Or.inr ⟨g', cap', cur, h', by have := h3.size; have := gy.size; omega, hr⟩
  obtain ⟨v', x3, hrun, r1, r2, r3⟩ := h1.app gz h3.size ⟨f.fn, f.pc, b, c, f.sl⟩ own2 (Nat.le_trans gy.size hlo) z.heap.size (fun q u hq => by
    simp only [frC] at hq
    rw [Addr.add_lit, cell_of_row _ _ _ _ _ _ (heap_alloc_new z _), Nat.zero_add]
    simpa using hq) (by omega)
  obtain ⟨kb, c2, rfl⟩ := r1.vt
  rw [hlen] at hrun r1
  refine ⟨kb, c2, x3, hrun, _, r1, ?_, ?_⟩
  · rw [List.map_append, h2, fr_take L k f hf, List.map_append]
    rfl
  · have gwz := h3.trans gz
    refine ⟨r2.os.trans gwz.os, r2.tape.trans gwz.tape, r2.output.trans gwz.output, Nat.le_trans gwz.size r2.size, fun q hq => (r2.block q (Nat.lt_of_lt_of_le hq gwz.size) (fun e => ?_)).trans (gwz.block q hq)⟩
    have := (h1.lt q (Or.inl e)).2
    omega
set_option maxHeartbeats 2000000 in
theorem s_frames {w : World} {B s : Nat} {v : Value} {L : List Fr} (h : SK w B s v L) (hL : L.length ≤ 1000) (hs : ∀ f ∈ L, f.sl.length ≤ 1000) :
    Calls Tryd.prog 21 #[.pointer (some ⟨s, 0, none⟩)] w fun e w' => ∃ v' L', e = .returned v' ∧ RK w' w.heap.size v' L' ∧ L'.map pf = L.map pf ∧ G w w' := by
  obtain ⟨ao, c, rfl, hv⟩ := h.rk.v
  obtain ⟨n, hn⟩ : ∃ n, n = L.length := ⟨_, rfl⟩
  rw [← hn] at h hv
  obtain ⟨C, hmk, hC⟩ := mk_frames n (by omega) w
  have c0 := h.c0
  have hlt := h.lts
  have ST := hide (fs_start w w L (G.refl w) C n (by omega) hC)
  have FI : Hid (∀ vb wr, FsI w L n vb wr → ∃ v' L', Ending.returned vb = .returned v' ∧ RK wr w.heap.size v' L' ∧ L'.map pf = L.map pf ∧ G w wr) := hide fun vb wr ⟨L', h1, h2, h3⟩ => ⟨vb, L', rfl, h1, by rw [h2, List.take_of_length_le (by omega)], h3⟩
  have RD : Hid (∀ (k : Nat) (vb : Value) (wr : World), k < n → FsI w L k vb wr → ∃ (kb : Nat) (fn pc : Int) (sb sc m : Nat), ao = some ⟨kb, 0, none⟩ ∧ wr.cell? ⟨kb, k * 3, none⟩ = some (.int .i64 fn) ∧ wr.cell? ⟨kb, k * 3 + 1, none⟩ = some (.int .i64 pc) ∧ wr.cell? ⟨kb, k * 3 + 2, none⟩ = some (.slice (some ⟨sb, 0, none⟩) m sc) ∧
      Hid (∀ o, Calls Tryd.prog 32 #[.agg #[.int .i64 fn, .int .i64 pc, .slice (some ⟨sb, 0, none⟩) m sc]] (wr.alloc o) fun e w' => ∃ b c, e = .returned (.agg #[.int .i64 fn, .int .i64 pc, .slice (some ⟨b, 0, none⟩) m c]) ∧
        ∃ kb2 c2 x3, (Builtin.append_ #[48, 48] 48 #[vb, .slice (some ⟨w'.heap.size, 0, none⟩) 1 1]).run Tryd.prog (w'.alloc (.cells #[.int .i64 fn, .int .i64 pc, .slice (some ⟨b, 0, none⟩) m c] 46)) = .ok (.slice (some ⟨kb2, 0, none⟩) (k + 1) c2) x3 ∧ Hid (FsI w L (k + 1) (.slice (some ⟨kb2, 0, none⟩) (k + 1) c2) x3))) := hide fun k vb wr hk HW => by
    obtain ⟨kb, rfl⟩ := hv (by omega)
    have hkL : k < L.length := by omega
    have hf : L[k]? = some L[k] := List.getElem?_eq_getElem hkL
    have hfm : L[k] ∈ L := List.getElem_mem hkL
    have hrk := h.rk.g HW.choose_spec.2.2
    have hg := hrk.get hf
    refine ⟨kb, _, _, _, _, _, rfl, hg.1, hg.2.1, hg.2.2, hide fun o => ?_⟩
    refine (copyOf_any (wr.alloc o) L[k] _ rfl (fun j y hy => (hrk.g (G.alloc _ o)).slot hfm hy) (hs _ hfm)).mono ?_
    rintro e w' ⟨b, c', rfl, hcp⟩
    refine ⟨b, c', rfl, ?_⟩
    obtain ⟨kb2, c2, x3, q1, q2⟩ := fs_step HW hf hL (G.alloc wr o) b c' w' hcp
    exact ⟨kb2, c2, x3, q1, hide q2⟩
  have hn1 : n ≤ 1000 := by omega
  clear h hv hL hs hn hC
  go_enter Tryd.func21, Tryd.ntmps21
  go_wp2_with fail
  go_loopw [3, 17] (fun b i wr => ∃ k : Nat, k ≤ n ∧ i = .int .i64 k ∧ Hid (FsI w L k b wr)) (fun _ i _ => n - (intOf i).toNat)
  case atStart => exact ⟨0, Nat.zero_le _, rfl, ST⟩
  case round =>
    obtain ⟨k, hk, rfl, HW⟩ := hrel
    by_cases hlt2 : k < n
    · obtain ⟨kb, fn, pc, sb, sc, m, rfl, d0, d1, d2, CC⟩ := unhide RD k _ wr hlt2 (unhide HW)
      clear HW RD FI ST
      go_wp2_with fail
      refine (unhide CC _).mono ?_
      rintro e w2 ⟨b, c', rfl, kb2, c2, x3, hrun, H3⟩
      clear CC
      go_wp2_with (at_builtin; refine wpl_apr rfl (.tmp 21) (.tmp 24) 48 rfl _ _ rfl rfl _ _ hrun ?_)
      go_roundw
      case rel => exact ⟨k + 1, by omega, by go_num, H3⟩
      case measure => simp [intOf]; omega
    · obtain rfl : k = n := by omega
      have K := hide (unhide FI _ wr (unhide HW))
      clear HW FI RD ST
      go_wp2_with fail
      refine bodyPost_ret (by simp [results, Tryd.results21, go_sem]; try rfl) rfl ?_
      exact unhide K
end Go.Proofs.YtnfeommkbocgpaaDoor
