/- The contracts of the document's Arena: Mark and Clear. -/
import Derived.Test.YtinehimleldkdaaGreatDoorRefMem
namespace Go.Proofs.YtinehimleldkdaaGreatDoor
set_option maxRecDepth 100000
open Go.ChangeShapes Go.WideShapes Go.ChangeAt Go.RowKit

set_option maxHeartbeats 400000 in
theorem rmark_none (w : World) (rb : Nat) (x : Int) (C : Hid (Calls Tryz.prog 48 #[.pointer (some ⟨rb, 0, none⟩), .int .i64 x] w fun e w' => e = .returned (.int .i64 (-1)) ∧ w' = w)) :
    Calls Tryz.prog 49 #[.pointer (some ⟨rb, 0, none⟩), .int .i64 x] w fun e w' => e = .returned (.bool false) ∧ w' = w := by
  go_enter Tryz.func49, Tryz.ntmps49
  go_wp2_with fail
  refine (unhide C).mono ?_
  rintro e w1 ⟨rfl, rfl⟩
  go_wp2_with fail
  go_ret
  exact ⟨rfl, rfl⟩
set_option maxHeartbeats 400000 in
theorem rmark_old (w : World) (rb g n lc i : Nat) (x : Int) (hi : i < n) (c1 : w.cell? ⟨rb, 1, none⟩ = some (.slice (some ⟨g, 0, none⟩) n lc)) (cm : w.cell? ⟨g, i * 3 + 2, none⟩ = some (.bool true))
    (C : Hid (Calls Tryz.prog 48 #[.pointer (some ⟨rb, 0, none⟩), .int .i64 x] w fun e w' => e = .returned (.int .i64 (i : Int)) ∧ w' = w)) :
    Calls Tryz.prog 49 #[.pointer (some ⟨rb, 0, none⟩), .int .i64 x] w fun e w' => e = .returned (.bool false) ∧ w' = w := by
  have hd : decide ((i : Int) < 0) = false := by simp
  go_enter Tryz.func49, Tryz.ntmps49
  go_wp2_with fail
  refine (unhide C).mono ?_
  rintro e w1 ⟨rfl, rfl⟩
  go_wp2_with fail
  go_ret
  exact ⟨rfl, rfl⟩
set_option maxHeartbeats 400000 in
theorem rmark_new (w : World) (rb g n lc i : Nat) (x : Int) (hi : i < n) (c1 : w.cell? ⟨rb, 1, none⟩ = some (.slice (some ⟨g, 0, none⟩) n lc)) (cm : w.cell? ⟨g, i * 3 + 2, none⟩ = some (.bool false)) (fm : w.frozen? ⟨g, i * 3 + 2, none⟩ = false)
    (C : Hid (Calls Tryz.prog 48 #[.pointer (some ⟨rb, 0, none⟩), .int .i64 x] w fun e w' => e = .returned (.int .i64 (i : Int)) ∧ w' = w)) :
    Calls Tryz.prog 49 #[.pointer (some ⟨rb, 0, none⟩), .int .i64 x] w fun e w' => e = .returned (.bool true) ∧ w' = w.setCell ⟨g, i * 3 + 2, none⟩ (.bool true) := by
  have hd : decide ((i : Int) < 0) = false := by simp
  go_enter Tryz.func49, Tryz.ntmps49
  go_wp2_with fail
  refine (unhide C).mono ?_
  rintro e w1 ⟨rfl, rfl⟩
  go_wp2_with fail
  go_ret
  exact ⟨rfl, rfl⟩

/-- Found, or not. -/
theorem findI_cases (l : List Thg) (x : Int) : findI l x = -1 ∧ (∀ t, t ∈ l → t.addr ≠ x) ∨ ∃ i t, findI l x = (i : Nat) ∧ l[i]? = some t ∧ t.addr = x := by
  unfold findI
  cases hf : l.findIdx? (fun t => t.addr == x) with
  | none =>
    left
    rw [List.findIdx?_eq_none_iff] at hf
    exact ⟨rfl, fun t ht => by simpa using hf t ht⟩
  | some i =>
    right
    rw [List.findIdx?_eq_some_iff_getElem] at hf
    obtain ⟨h1, h2, _⟩ := hf
    exact ⟨i, _, rfl, List.getElem?_eq_getElem h1, by simpa using h2⟩

theorem rmark_at {w : World} {B : Nat} {r : Rd} {cl : List Int} {l : List Mt} (h : RefAt w B r cl l) (hl : l.length ≤ 100000) (x : Int) :
    Calls Tryz.prog 49 #[.pointer (some ⟨r.rb, 0, none⟩), .int .i64 x] w fun e w' =>
      (e = .returned (.bool false) ∧ w' = w ∧ ((∀ t, t ∈ things l → t.addr ≠ x) ∨ ∃ (i : Nat) (m : Mt), l[i]? = some m ∧ m.t.addr = x ∧ m.t.mr = true)) ∨
      (e = .returned (.bool true) ∧ ∃ (i : Nat) (m : Mt), l[i]? = some m ∧ m.t.addr = x ∧ m.t.mr = false ∧ RefAt w' B r cl (markI l i true) ∧ Rn w w' r l) := by
  have C := rfind_at h hl x
  rcases findI_cases (things l) x with ⟨e, hn⟩ | ⟨i, t, e, hi, ha⟩
  · rw [e] at C
    refine (rmark_none w r.rb x (hide C)).mono ?_
    rintro e w' ⟨rfl, rfl⟩
    exact Or.inl ⟨rfl, rfl, Or.inl hn⟩
  · rw [e] at C
    unfold things at hi
    rw [List.getElem?_map] at hi
    obtain ⟨m, hm, rfl⟩ := Option.map_eq_some_iff.1 hi
    obtain ⟨g, hg, x0, x1, x2⟩ := h.row i m hm
    have hil := (List.getElem?_eq_some_iff.1 hm).1
    have c1 := h.c1
    rw [hg] at c1
    by_cases hmr : m.t.mr = true
    · rw [hmr] at x2
      refine (rmark_old w r.rb g l.length r.lc i x hil c1 x2 (hide C)).mono ?_
      rintro e w' ⟨rfl, rfl⟩
      exact Or.inl ⟨rfl, rfl, Or.inr ⟨i, m, hm, ha, hmr⟩⟩
    · simp only [Bool.not_eq_true] at hmr
      rw [hmr] at x2
      refine (rmark_new w r.rb g l.length r.lc i x hil c1 x2 ((h.lf _ hg).2.2.2.1 _) (hide C)).mono ?_
      rintro e w' ⟨rfl, rfl⟩
      exact Or.inr ⟨rfl, i, m, hm, ha, hmr, h.setMark hg true⟩

/-! ### Clear -/
/-- The first k marks forgotten. -/
def clrM : List Mt → Nat → List Mt
  | [], _ => []
  | m :: r, 0 => m :: r
  | m :: r, k + 1 => { m with t := { m.t with mr := false } } :: clrM r k
theorem clrM_zero (l : List Mt) : clrM l 0 = l := by cases l <;> rfl
theorem clrM_succ : ∀ (l : List Mt) (k : Nat), clrM l (k + 1) = markI (clrM l k) k false
  | [], k => by simp [clrM, markI]
  | m :: r, 0 => by simp [clrM, markI, clrM_zero]
  | m :: r, k + 1 => by
    have := clrM_succ r k
    unfold markI at *
    rw [clrM, clrM, this]
    rfl
theorem clrM_len : ∀ (l : List Mt) (k : Nat), (clrM l k).length = l.length
  | [], _ => rfl
  | m :: r, 0 => rfl
  | m :: r, k + 1 => by simp [clrM, clrM_len r k]
theorem clrM_all : ∀ (l : List Mt), things (clrM l l.length) = unmark (things l)
  | [] => rfl
  | m :: r => by
    have := clrM_all r
    unfold things unmark at *
    simp only [List.length_cons, clrM, List.map_cons, List.cons.injEq, true_and]
    exact this
theorem Rn.wb {w w' : World} {r : Rd} {l l' : List Mt} (h : Rn w w' r l) (hw : ∀ m, m ∈ l → ∃ m', m' ∈ l' ∧ m.wb = m'.wb) : Rn w w' r l' :=
  ⟨h.os, h.tape, h.output, h.size, fun k hk k0 k1 k2 k3 => h.block k hk k0 k1 k2 fun m hm => by obtain ⟨m', h1, h2⟩ := hw m hm; rw [h2]; exact k3 m' h1⟩
theorem Rn.trans {w w1 w2 : World} {r : Rd} {l : List Mt} (h : Rn w w1 r l) (k : Rn w1 w2 r l) : Rn w w2 r l :=
  ⟨k.os.trans h.os, k.tape.trans h.tape, k.output.trans h.output, Nat.le_trans h.size k.size, fun b hb h1 h2 h3 h4 => (k.block b (Nat.lt_of_lt_of_le hb h.size) h1 h2 h3 h4).trans (h.block b hb h1 h2 h3 h4)⟩
theorem clrM_wb : ∀ (l : List Mt) (k : Nat), ∀ m, m ∈ clrM l k → ∃ m', m' ∈ l ∧ m.wb = m'.wb
  | [], _, m, hm => by simp [clrM] at hm
  | a :: r, 0, m, hm => ⟨m, hm, rfl⟩
  | a :: r, k + 1, m, hm => by
    rcases List.mem_cons.1 hm with rfl | hm
    · exact ⟨a, by simp, rfl⟩
    · obtain ⟨m', h1, h2⟩ := clrM_wb r k m hm
      exact ⟨m', List.mem_cons_of_mem _ h1, h2⟩

end Go.Proofs.YtinehimleldkdaaGreatDoor
