/- slotsFrom, funcOf, casesOf, caseReads, casesRead of package live. -/
import Derived.Test.YtnliooflpclcbaaGreatDoorLiveRow
namespace Go.Proofs.YtnliooflpclcbaaGreatDoor
set_option maxRecDepth 100000
open Go.RowKit Go.Maps Go.ChangeShapes Go.WideShapes Go.ChangeAt Go.Deep

/-- A run of slots; more than 64 are none. -/
def runN (a : Int) (n : Nat) : List Int := (List.range n).map (fun (k : Nat) => wrap64 (a + (k : Int)))
def runP (a n : Int) : List Int := if n < 0 ∨ 64 < n then [] else runN a n.toNat
theorem runN_len (a : Int) (n : Nat) : (runN a n).length = n := by simp [runN]
/-- A module's function; one of nothing. -/
def noFn : Fn := ⟨0, 0, 0, 0, [], [], []⟩
def fnP (m : Md) (k : Int) : Fn := if k < 0 then noFn else (m.fn[k.toNat]?).getD noFn
/-- A select's cases; none, if they are not all there. -/
def casesP (m : Md) (a b : Int) : List Ca := if a < 0 ∨ b < 0 ∨ (m.ca.length : Int) - a < b then [] else (m.ca.drop a.toNat).take b.toNat
def crP (c : Ca) : List Int := if c.k = 2 then [] else if c.k = 1 then [c.c, c.v] else [c.c]
abbrev agM (m : Md) (so : Option Addr) (sc : Nat) (go : Option Addr) (gc : Nat) (co : Option Addr) (cc : Nat) (ao : Option Addr) (ac : Nat) (fo : Option Addr) (fc : Nat) : Value := .agg #[.slice so m.sh.length sc, .slice go m.gl.length gc, .slice co m.co.length cc, .slice ao m.ca.length ac, .slice fo m.fn.length fc, .int .i64 m.main]
abbrev agI (i : In) : Value := .agg #[.int .i64 i.op, .int .i64 i.a, .int .i64 i.b, .int .i64 i.c, .int .i64 i.d]

theorem mk_ints (n : Nat) (hn : n ≤ 10000000) (w : World) : (Instr.makeSlice 55 (.int .i64 (n : Int)) (.int .i64 (n : Int))).run Tryz.prog w = .ok (.slice (some ⟨w.heap.size, 0, none⟩) n n) (w.alloc (.cells (madeCells #[.int .i64 0] n) 3)) := by
  obtain ⟨i, hi, hz, hs, hb⟩ := info_parts info_int
  have := run_make (P := Tryz.prog) w 55 3 i (.int .i64 0) Tryz.underlying55 hi hz .i64 .i64 (n : Int) (n : Int) (by omega) (by omega) (by rw [hb]; omega) (by omega)
  rw [this, hs, Int.toNat_natCast, Nat.mul_one]
  rfl
/-- The first k of a made row are written. -/
structure MkI (w : World) (n k : Nat) (f : Nat → Int) (wr : World) : Prop where
  g : G w wr
  lt : w.heap.size < wr.heap.size
  done : ∀ i, i < k → wr.cell? ⟨w.heap.size, i, none⟩ = some (.int .i64 (f i))
  thr : ∀ i, i < n → (wr.cell? ⟨w.heap.size, i, none⟩).isSome = true ∧ wr.frozen? ⟨w.heap.size, i, none⟩ = false
theorem mki_start (w : World) (n : Nat) (f : Nat → Int) : MkI w n 0 f (w.alloc (.cells (madeCells #[.int .i64 0] n) 3)) := by
  have e := heap_alloc_new w (.cells (madeCells #[.int .i64 0] n) 3)
  refine ⟨G.alloc _ _, by rw [World.size_alloc]; omega, (fun i hi => by omega), fun j hj => ⟨?_, ?_⟩⟩
  · rw [cell_of_row _ _ j _ _ _ e]
    have : j < (madeCells #[.int .i64 0] n).size := by rw [size_madeCells]; omega
    rw [Array.getElem?_eq_getElem this]
    rfl
  · unfold World.frozen?
    rw [e]
    simp
theorem MkI.step {w : World} {n k : Nat} {f : Nat → Int} {wr : World} (h : MkI w n k f wr) (hk : k < n) : MkI w n (k + 1) f (wr.setCell ⟨w.heap.size, k, none⟩ (.int .i64 (f k))) := by
  obtain ⟨u, hu⟩ := Option.isSome_iff_exists.1 (h.thr k hk).1
  refine ⟨G.set h.g _ _ _ (Nat.le_refl _), by rw [World.size_setCell]; exact h.lt, fun i hi => ?_, fun i hi => ⟨?_, ?_⟩⟩
  · by_cases e : i = k
    · subst e; exact cell_same _ hu
    · rw [cell_other _ (Or.inr e)]; exact h.done i (by omega)
  · by_cases e : i = k
    · subst e; rw [cell_same _ hu]; rfl
    · rw [cell_other _ (Or.inr e)]; exact (h.thr i hi).1
  · rw [World.frozen?_setCell]; exact (h.thr i hi).2
theorem MkI.isl {w : World} {n : Nat} {f : Nat → Int} {wr : World} (h : MkI w n n f wr) (hn : n ≤ 10000000) (l : List Int) (hl : l.length = n) (hf : ∀ i a, l[i]? = some a → a = f i) : IsL wr (.slice (some ⟨w.heap.size, 0, none⟩) n n) l := by
  subst hl
  refine ⟨_, _, rfl, Nat.le_refl _, rfl, by unfold maxLen; omega, (fun e => by cases e), Or.inr ⟨w.heap.size, 0, rfl, h.lt, fun i a hi => ⟨[.int .i64 a], rfl, fun q u hq => ?_⟩⟩⟩
  match q, hq with
  | 0, hq =>
    simp at hq
    subst hq
    have hil := (List.getElem?_eq_some_iff.1 hi).1
    rw [hf i a hi]
    have := h.done i hil
    simpa [elI] using this
  | q + 1, hq => simp at hq

set_option maxHeartbeats 1000000 in
theorem slots_none (w : World) (a n : Int) (h : n < 0 ∨ 64 < n) : Calls Tryz.prog 60 #[.int .i64 a, .int .i64 n] w (LTo w (runP a n)) := by
  have e : runP a n = [] := by unfold runP; rw [if_pos h]
  have K : Hid (LTo w (runP a n) (.returned (.slice none 0 0)) w) := hide (by rw [e]; exact ⟨_, rfl, isl_nil w, G.refl w⟩)
  by_cases h0 : n < 0
  · clear h e
    go_enter Tryz.func60, Tryz.ntmps60
    go_wp2_with fail
    refine bodyPost_ret (by simp [results, Tryz.results60, go_sem]; try rfl) rfl ?_
    exact unhide K
  · have h1 : 64 < n := by omega
    clear h e
    go_enter Tryz.func60, Tryz.ntmps60
    go_wp2_with fail
    refine bodyPost_ret (by simp [results, Tryz.results60, go_sem]; try rfl) rfl ?_
    exact unhide K
set_option maxHeartbeats 1000000 in
theorem slots_some (w : World) (a : Int) (n : Nat) (h : n ≤ 64) : Calls Tryz.prog 60 #[.int .i64 a, .int .i64 (n : Int)] w (LTo w (runN a n)) := by
  have hmk := mk_ints n (by omega) w
  have ST := hide (mki_start w n (fun k => wrap64 (a + (k : Int))))
  have FI : Hid (∀ wr, MkI w n n (fun k => wrap64 (a + (k : Int))) wr → LTo w (runN a n) (.returned (.slice (some ⟨w.heap.size, 0, none⟩) n n)) wr) := hide (fun wr H => ⟨_, rfl, H.isl (by omega) (runN a n) (runN_len a n) (fun i x hx => by
    unfold runN at hx
    rw [List.getElem?_map] at hx
    obtain ⟨k, hk, rfl⟩ := Option.map_eq_some_iff.1 hx
    rw [List.getElem?_range (by simpa using (List.getElem?_eq_some_iff.1 hk).1)] at hk
    cases hk
    rfl), H.g⟩)
  have h0 : ¬ (n : Int) < 0 := by omega
  have h1 : ¬ 64 < (n : Int) := by omega
  have h2 : ¬ 64 < n := by omega
  go_enter Tryz.func60, Tryz.ntmps60
  go_wp2_with fail
  go_loopw [17] (fun i wr => ∃ k : Nat, k ≤ n ∧ i = .int .i64 k ∧ Hid (MkI w n k (fun k => wrap64 (a + (k : Int))) wr)) (fun i _ => n - (intOf i).toNat)
  case atStart => exact ⟨0, Nat.zero_le _, rfl, ST⟩
  case round =>
    obtain ⟨k, hk, rfl, H⟩ := hrel
    clear ST hmk
    by_cases hlt : k < n
    · obtain ⟨u, hu⟩ := Option.isSome_iff_exists.1 ((unhide H).thr k hlt).1
      have hf := ((unhide H).thr k hlt).2
      have HG := hide ((unhide H).step hlt)
      clear H FI
      go_wp2_with fail
      go_roundw
      case rel => exact ⟨k + 1, by omega, by go_num, HG⟩
      case measure => simp [intOf]; omega
    · obtain rfl : k = n := by omega
      have K := hide (unhide FI wr (unhide H))
      clear H FI
      go_wp2_with fail
      refine bodyPost_ret (by simp [results, Tryz.results60, go_sem]; try rfl) rfl ?_
      exact unhide K
theorem slots_any (w : World) (a n : Int) : Calls Tryz.prog 60 #[.int .i64 a, .int .i64 n] w (LTo w (runP a n)) := by
  by_cases h : n < 0 ∨ 64 < n
  · exact slots_none w a n h
  · obtain ⟨k, rfl⟩ : ∃ k : Nat, n = k := ⟨n.toNat, by omega⟩
    have := slots_some w a k (by omega)
    unfold runP
    rw [if_neg h, Int.toNat_natCast]
    exact this

set_option maxHeartbeats 1000000 in
theorem caseReads_any (w : World) (c : Ca) : Calls Tryz.prog 75 #[.agg #[.int .i64 c.k, .int .i64 c.c, .int .i64 c.v, .int .i64 c.t]] w (LTo w (crP c)) := by
  obtain ⟨k, ch, v, t⟩ := c
  by_cases h2 : k = 2
  · subst h2
    have K : Hid (∀ x, G w x → LTo w (crP ⟨2, ch, v, t⟩) (.returned (.slice none 0 0)) x) := hide (fun x g => ⟨_, rfl, isl_nil x, g⟩)
    go_enter Tryz.func75, Tryz.ntmps75
    go_wp2_with fail
    refine bodyPost_ret (by simp [results, Tryz.results75, go_sem]; try rfl) rfl ?_
    exact unhide K _ (G.alloc _ _)
  · by_cases h1 : k = 1
    · subst h1
      have K : Hid (∀ x, G w x → LTo w (crP ⟨1, ch, v, t⟩) (.returned (.slice (some ⟨x.heap.size, 0, none⟩) 2 2)) (x.alloc (.cells #[.int .i64 ch, .int .i64 v] 3))) := hide (fun x g => ⟨_, rfl, isl_new x [ch, v] (by show 2 ≤ maxLen; decide), g.more _⟩)
      clear h2
      go_enter Tryz.func75, Tryz.ntmps75
      go_wp2_with fail
      refine bodyPost_ret (by simp [results, Tryz.results75, go_sem]; try rfl) rfl ?_
      have := unhide K _ (G.alloc w (.cells #[.int .i64 1, .int .i64 ch, .int .i64 v, .int .i64 t] 43))
      simpa [World.size_alloc] using this
    · have e : crP ⟨k, ch, v, t⟩ = [ch] := by unfold crP; rw [if_neg h2, if_neg h1]
      have K : Hid (∀ x, G w x → LTo w (crP ⟨k, ch, v, t⟩) (.returned (.slice (some ⟨x.heap.size, 0, none⟩) 1 1)) (x.alloc (.cells #[.int .i64 ch] 3))) := hide (fun x g => by rw [e]; exact ⟨_, rfl, isl_new x [ch] (by show 1 ≤ maxLen; decide), g.more _⟩)
      have b2 : (k == 2) = false := beq_eq_false_iff_ne.2 h2
      have b1 : (k == 1) = false := beq_eq_false_iff_ne.2 h1
      clear h1 h2 e
      go_enter Tryz.func75, Tryz.ntmps75
      go_wp2_with fail
      refine bodyPost_ret (by simp [results, Tryz.results75, go_sem]; try rfl) rfl ?_
      have := unhide K _ (G.alloc w (.cells #[.int .i64 k, .int .i64 ch, .int .i64 v, .int .i64 t] 43))
      simpa [World.size_alloc] using this
end Go.Proofs.YtnliooflpclcbaaGreatDoor
