/- The calls of ArenaPlays' rounds. -/
import Derived.Test.YtagfgpfdlcchoaaDoorPlaysAlike
namespace Go.Proofs.YtagfgpfdlcchoaaDoor
open Go.ChangeShapes Go.WideShapes Go.ChangeAt Go.RowKit Go.Maps

section
variable {W w : World} {d : Ad} {a a' : Ab} {r : Rd} {cl : List Int} {l : List Mt} {xb : Nat} {s : Ac}
/-- The call's six cells, and the document's Arena's. -/
theorem Bx.cells (h : Bx W w d a r cl l xb s) : w.cell? ⟨xb, 0, none⟩ = some (.int .i64 s.op) ∧ w.cell? ⟨xb, 1, none⟩ = some (.int .i64 s.sp) ∧ w.cell? ⟨xb, 2, none⟩ = some (.int .i64 s.cl) ∧ w.cell? ⟨xb, 3, none⟩ = some (.int .i64 s.at_) ∧ w.cell? ⟨xb, 4, none⟩ = some (.int .i64 s.ad) ∧ w.cell? ⟨xb, 5, none⟩ = some (.int .i64 s.v) := h.x

theorem bx_set (h : Hid (Bx W w d a r cl l xb s)) (sp c : Int) : Calls Tryd.prog 40 #[.pointer (some ⟨d.ab, 0, none⟩), .int .i64 sp, .int .i64 c] w fun e w' => e = .returned (.int .i64 (a.setE sp c)) ∧ Bx W w' d (a.setA sp c) r cl l xb s :=
  (st_set (hide (unhide h).bn.st) sp c).mono fun _ _ hh => ⟨hh.1, (unhide h).tn hh.2.1 hh.2.2⟩
theorem bx_take (h : Hid (Bx W w d a r cl l xb s)) (sp : Int) : Calls Tryd.prog 41 #[.pointer (some ⟨d.ab, 0, none⟩), .int .i64 sp] w fun e w' => e = .returned (.tuple #[.int .i64 (a.takeV sp), .int .i64 (a.takeE sp)]) ∧ Bx W w' d (a.takeA sp) r cl l xb s :=
  (st_take (hide (unhide h).bn.st) sp).mono fun _ _ hh => ⟨hh.1, (unhide h).tn hh.2.1 hh.2.2⟩
theorem bx_mark (h : Hid (Bx W w d a r cl l xb s)) (x : Int) : Calls Tryd.prog 19 #[.pointer (some ⟨d.ab, 0, none⟩), .int .i64 x] w fun e w' => e = .returned (.bool (a.markB x)) ∧ Bx W w' d (a.markA x) r cl l xb s :=
  (st_mark (hide (unhide h).bn.st) x).mono fun _ _ hh => ⟨hh.1, (unhide h).tn hh.2.1 hh.2.2⟩
theorem bx_clear (h : Hid (Bx W w d a r cl l xb s)) : Calls Tryd.prog 23 #[.pointer (some ⟨d.ab, 0, none⟩)] w fun e w' => e = .returned (.tuple #[]) ∧ Bx W w' d a.clear r cl l xb s :=
  (st_clear (hide (unhide h).bn.st)).mono fun _ _ hh => ⟨hh.1, (unhide h).tn hh.2.1 hh.2.2⟩
theorem bx_sweep (h : Hid (Bx W w d a r cl l xb s)) (sp : Int) : Calls Tryd.prog 22 #[.pointer (some ⟨d.ab, 0, none⟩), .int .i64 sp] w fun e w' => e = .returned (.int .i64 (a.sweepN sp : Int)) ∧ Bx W w' d (a.sweepA sp) r cl l xb s :=
  (st_sweep (hide (unhide h).bn.st) sp).mono fun _ _ hh => ⟨hh.1, (unhide h).tn hh.2.1 hh.2.2⟩
theorem bx_write (h : Hid (Bx W w d a r cl l xb s)) (x i v : Int) : Calls Tryd.prog 30 #[.pointer (some ⟨d.ab, 0, none⟩), .int .i64 x, .int .i64 i, .int .i64 v] w fun e w' => e = .returned (.int .i64 (a.readE x i)) ∧ Bx W w' d (a.writeA x i v) r cl l xb s :=
  (st_write (hide (unhide h).bn.st) x i v).mono fun _ _ hh => ⟨hh.1, (unhide h).tn hh.2.1 hh.2.2⟩
theorem bx_read (h : Hid (Bx W w d a r cl l xb s)) (x i : Int) : Calls Tryd.prog 31 #[.pointer (some ⟨d.ab, 0, none⟩), .int .i64 x, .int .i64 i] w fun e w' => e = .returned (.tuple #[.int .i64 (a.readV x i), .int .i64 (a.readE x i)]) ∧ Bx W w' d a r cl l xb s :=
  (st_read (hide (unhide h).bn.st) x i).mono fun _ _ hh => ⟨hh.1, (unhide h).gr hh.2.2⟩

theorem br_take (h : Hid (Bx W w d a' r cl l xb s)) (R : Rl a cl l) (g : a.Good) (hl : l.length ≤ 2000) {q : Nat} (h1 : 1 ≤ q) (h2 : q < a.n) (h3 : 0 ≤ a.cls q) :
    Calls Tryd.prog 42 #[.pointer (some ⟨r.rb, 0, none⟩), .int .i64 (q : Int)] w fun e w' =>
      (a.takeE q = 5 ∧ a.takeV q = 0 ∧ a.takeA q = a ∧ e = .returned (.int .i64 0) ∧ Bx W w' d a' r cl l xb s) ∨
      (∃ r' l', a.takeE q = 0 ∧ 0 < a.takeV q ∧ e = .returned (.int .i64 (a.takeV q)) ∧ Rl (a.takeA q) cl l' ∧ Bx W w' d a' r' cl l' xb s ∧ r'.rb = r.rb ∧ l'.length ≤ l.length + 1) := by
  refine (rtake_at (unhide h).bn.ref (unhide h).bn.st.below.size hl (R.get h2) h3 (g.ok.cr q).2).mono ?_
  intro e w' P
  rcases R.takes g h1 h2 h3 P with ⟨e1, e2, e3, e4, g4⟩ | ⟨r', l', e1, e2, e3, R', RA, rn, gw, hl'⟩
  · exact Or.inl ⟨e1, e2, e3, e4, (unhide h).gr g4⟩
  · exact Or.inr ⟨r', l', e1, e2, e3, R', (unhide h).rn RA rn gw, gw.rb, by omega⟩
theorem markI_mem {l : List Mt} {i : Nat} {b : Bool} : ∀ m, m ∈ markI l i b → ∃ m0, m0 ∈ l ∧ m.wb = m0.wb := by
  intro m hm
  obtain ⟨j, hj⟩ := List.getElem?_of_mem hm
  rw [markI_get] at hj
  obtain ⟨m0, h0, rfl⟩ := Option.map_eq_some_iff.1 hj
  exact ⟨m0, List.mem_of_getElem? h0, by split <;> rfl⟩
theorem br_mark (h : Hid (Bx W w d a' r cl l xb s)) (R : Rl a cl l) (g : a.Good) (hl : l.length ≤ 2000) (x : Int) :
    Calls Tryd.prog 20 #[.pointer (some ⟨r.rb, 0, none⟩), .int .i64 x] w fun e w' => e = .returned (.bool (a.markB x)) ∧ ∃ l', Rl (a.markA x) cl l' ∧ Bx W w' d a' r cl l' xb s ∧ l'.length = l.length := by
  refine (rmark_at (unhide h).bn.ref (by omega) x).mono ?_
  rintro e w' (⟨rfl, rfl, hn⟩ | ⟨rfl, i, m, hm, hx, hr, RA, rn⟩)
  · obtain ⟨e1, e2⟩ := R.mark_no g hn
    rw [e1, e2]
    exact ⟨rfl, l, R, unhide h, rfl⟩
  · obtain ⟨e1, R'⟩ := R.mark_yes g hm hx hr
    rw [e1]
    exact ⟨rfl, _, R', (unhide h).rn RA rn ⟨rfl, rfl, fun _ h => Or.inl h, fun m hm => Or.inl (markI_mem m hm)⟩, by simp [markI]⟩
theorem br_mark2 {rb : Nat} {hr : Hid (r.rb = rb)} {R : Hid (Rl a cl l)} {good : Hid a.Good} {hl2 : Hid (l.length ≤ 2000)} (h : Hid (Bx W w d a' r cl l xb s)) (x : Int) :
    Calls Tryd.prog 20 #[.pointer (some ⟨rb, 0, none⟩), .int .i64 x] w fun e w' => e = .returned (.bool (a.markB x)) ∧ ∃ l', Rl (a.markA x) cl l' ∧ Bx W w' d a' r cl l' xb s ∧ l'.length = l.length := by
  rw [← unhide hr]
  exact br_mark h (unhide R) (unhide good) (unhide hl2) x
theorem Ab.takeA_n' (a : Ab) (s : Int) : (a.takeA s).n = a.n := by unfold Ab.takeA; split <;> rfl
theorem Ab.markA_n' (a : Ab) (s : Int) : (a.markA s).n = a.n := by unfold Ab.markA; split <;> rfl
theorem Ab.sweepA_n' (a : Ab) (s : Int) : (a.sweepA s).n = a.n := by unfold Ab.sweepA; split <;> rfl
theorem Ab.writeA_n' (a : Ab) (s i v : Int) : (a.writeA s i v).n = a.n := by unfold Ab.writeA; split <;> rfl
theorem wordI_len (l : List Mt) (i k : Nat) (v : Int) : (wordI l i k v).length = l.length := by simp [wordI]
theorem br_clear (h : Hid (Bx W w d a' r cl l xb s)) (R : Rl a cl l) (hl : l.length ≤ 2000) :
    Calls Tryd.prog 24 #[.pointer (some ⟨r.rb, 0, none⟩)] w fun e w' => e = .returned (.tuple #[]) ∧ ∃ l', Rl a.clear cl l' ∧ Bx W w' d a' r cl l' xb s ∧ l'.length = l.length := by
  refine (rclear_at (unhide h).bn.ref (by omega)).mono ?_
  rintro e w' ⟨rfl, l', RA, et, rn, hw⟩
  refine ⟨rfl, l', ⟨by rw [R.cl]; exact (clsL_same a a.clear rfl (fun _ => rfl)).symm, by rw [et]; exact R.rel.clear⟩, (unhide h).rn RA rn ⟨rfl, rfl, fun _ h => Or.inl h, fun m hm => Or.inl (hw m hm)⟩, ?_⟩
  have := congrArg List.length et
  simpa [things, unmark] using this
theorem br_sweep (h : Hid (Bx W w d a' r cl l xb s)) (R : Rl a cl l) (g : a.Good) (hl : l.length ≤ 2000) {q : Nat} (h1 : 1 ≤ q) (h2 : q < a.n) :
    Calls Tryd.prog 21 #[.pointer (some ⟨r.rb, 0, none⟩), .int .i64 (q : Int)] w fun e w' => e = .returned (.int .i64 (a.sweepN q : Int)) ∧ ∃ r' cl' l', Rl (a.sweepA q) cl' l' ∧ Bx W w' d a' r' cl' l' xb s ∧ r'.rb = r.rb ∧ l'.length ≤ l.length := by
  by_cases h3 : 0 ≤ a.cls q
  · refine (rsweep_at (unhide h).bn.ref (unhide h).bn.st.below.size (by omega) (R.get h2) h3).mono ?_
    rintro e w' ⟨rfl, ao, ca, RA, rn, hlo⟩
    obtain ⟨e1, R'⟩ := R.sweep g h1 h2 h3
    rw [e1]
    exact ⟨rfl, _, _, _, R', (unhide h).rn RA rn ⟨rfl, rfl, fun a ha => Or.inr (hlo a ha), fun m hm => Or.inl ⟨m, keptM_mem m hm, rfl⟩⟩, rfl, keptM_le _ _ _⟩
  · obtain ⟨e1, e2⟩ := sweep_out g (s := (q : Int)) (by rw [a.clsI_at h1 h2]; omega)
    rw [e1, e2]
    have c0 := (unhide h).bn.ref.c0
    refine (rsweep_none w r.rb r.cb cl.length r.cc q (a.cls q) (by rw [R.len]; exact h2) c0 ((unhide h).bn.ref.cv q _ (R.get h2)) (by simp; omega)).mono ?_
    rintro e w' ⟨rfl, rfl⟩
    exact ⟨rfl, r, cl, l, R, unhide h, rfl, Nat.le_refl _⟩
theorem br_find (h : Hid (Bx W w d a' r cl l xb s)) (hl : l.length ≤ 2000) (x : Int) :
    Calls Tryd.prog 43 #[.pointer (some ⟨r.rb, 0, none⟩), .int .i64 x] w fun e w' => e = .returned (.int .i64 (findI (things l) x)) ∧ w' = w := rfind_at (unhide h).bn.ref (by omega) x
/-- A class is set in the document's own. -/
theorem Bx.setCls (h : Bx W w d a r cl l xb s) {q : Nat} (hq : q < cl.length) (c : Int) : Bx W (w.setCell ⟨r.cb, q, none⟩ (.int .i64 c)) d a r (cl.set q c) l xb s := by
  obtain ⟨k1, k2⟩ := h.bn.ref.setCls hq c
  exact h.rn k1 k2 (Grew.refl _ _ _)
theorem Bx.setWord (h : Bx W w d a r cl l xb s) {i k : Nat} {m : Mt} (hm : l[i]? = some m) (hk : k < m.t.ws.length) (v : Int) : Bx W (w.setCell ⟨m.wb, k, none⟩ (.int .i64 v)) d a r cl (wordI l i k v) xb s := by
  obtain ⟨k1, k2, k3⟩ := h.bn.ref.setWord hm hk v
  exact h.rn k1 k2 k3
end

/-- What ArenaPlays knows between its rounds. -/
def Inv (W w : World) (d : Ad) (rb N i : Nat) : Prop := ∃ (a : Ab) (r : Rd) (cl : List Int) (l : List Mt), Bn W w d a r cl l ∧ Rl a cl l ∧ r.rb = rb ∧ a.n = N ∧ l.length ≤ i
theorem Inv.gr {W w w' : World} {d : Ad} {rb N i : Nat} (h : Inv W w d rb N i) (g : G w w') : Inv W w' d rb N i := by
  obtain ⟨a, r, cl, l, h1, h2, h3, h4, h5⟩ := h
  exact ⟨a, r, cl, l, h1.gr g, h2, h3, h4, h5⟩
theorem Inv.of {W w : World} {d : Ad} {a : Ab} {r : Rd} {cl : List Int} {l : List Mt} {xb rb N i : Nat} {s : Ac} (h : Bx W w d a r cl l xb s) (R : Rl a cl l) (hr : r.rb = rb) (hn : a.n = N) (hl : l.length ≤ i) : Inv W w d rb N i := ⟨a, r, cl, l, h.bn, R, hr, hn, hl⟩
end Go.Proofs.YtagfgpfdlcchoaaDoor
