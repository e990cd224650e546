/- One arena beside two rows; the calls of ArenaApart. -/
import Derived.Test.YtgflkpccddfalaaGreatDoorApartPlain
namespace Go.Proofs.YtgflkpccddfalaaGreatDoor
set_option maxRecDepth 100000
open Go.ChangeShapes Go.WideShapes Go.ChangeAt Go.RowKit

/-- The numbers zs lie at ao in w. -/
def IsInts (w : World) (ao : Option Addr) (n : Nat) (zs : List Int) : Prop :=
  zs.length = n ∧ (n = 0 ∨ ∃ b off, ao = some ⟨b, off, none⟩ ∧ b < w.heap.size ∧ ∀ (i : Nat) z, zs[i]? = some z → w.cell? ⟨b, off + i, none⟩ = some (.int .i64 z))

theorem open_introw {H : Type} {enc : TypeId × Value → H} {w : World} {base b0 : Nat} {spare : Nat → Bool} {held : Bool} {r : Reach} {v : Value} {d : DataW H} {ps : List MemPlace}
    (hval : Value.okWide Tryz.prog w r b0 62 v) (hd : DataW.Trod enc Tryz.prog w base spare held 62 v d ps) :
    ∃ ao n c zs, v = .slice ao n c ∧ IsInts w ao n zs := by
  obtain ⟨ao, len, cap, rfl⟩ := okWide_slice Tryz.underlying62 hval
  obtain ⟨fuel, hf⟩ := hd
  rcases open_ints Tryz.underlying62 Tryz.underlying3 (by kernel_rfl) hf with ⟨hcs, _⟩ | ⟨x, l, c, zs, hcs, _, hl, hm, hz, _, hcell, hwz⟩
  · simp [Value.cells] at hcs
    obtain ⟨rfl, rfl, rfl⟩ := hcs
    exact ⟨none, 0, 0, [], rfl, rfl, Or.inl rfl⟩
  · simp [Value.cells] at hcs
    obtain ⟨rfl, rfl, rfl⟩ := hcs
    have hle : len ≤ zs.length := by rw [hz]; split <;> omega
    refine ⟨some x, len, cap, zs.take len, rfl, by simp; omega, ?_⟩
    rcases Nat.eq_zero_or_pos len with h0 | h0
    · exact Or.inl h0
    · obtain ⟨b, off, spot⟩ := x
      have hc := hcell 0 (by omega)
      have hspot : spot = none := by simpa [Addr.add] using World.cell?_spot hc
      subst hspot
      have h1 := hcell 0 (by omega)
      rw [Addr.add_lit] at h1
      refine Or.inr ⟨b, off, rfl, World.block_lt_of_cell? w _ h1, fun i z hi => ?_⟩
      have hil : i < len := by have := (List.getElem?_eq_some_iff.1 hi).1; simp at this; omega
      have := hcell i (by omega)
      rw [Addr.add_lit] at this
      rw [this]
      rw [List.getElem?_take_of_lt hil] at hi
      simp [List.getD, hi]

theorem IsInts.at_ {W w : World} {ao : Option Addr} {n : Nat} {zs : List Int} (h : IsInts W ao n zs) (hb : Below W.heap.size W w) {i : Nat} (hi : i < n) : ∃ z b off, ao = some ⟨b, off, none⟩ ∧ b < w.heap.size ∧ w.cell? ⟨b, off + i, none⟩ = some (.int .i64 z) := by
  obtain ⟨h1, h3⟩ := h
  rcases h3 with h3 | ⟨b, off, rfl, hlt, h3⟩
  · omega
  · obtain ⟨z, hz⟩ : ∃ z, zs[i]? = some z := ⟨zs[i]'(by omega), List.getElem?_eq_getElem (by omega)⟩
    exact ⟨z, b, off, rfl, Nat.lt_of_lt_of_le hlt hb.size, (World.cell?_of_block (hb.block b hlt)).trans (h3 i z hz)⟩

theorem and7 (n : Int) : bits .and .i64 n 7 = n % 8 := by
  have h7 : (BitVec.ofInt 64 7).toNat = 2 ^ 3 - 1 := by decide
  have key : (BitVec.ofInt 64 n &&& BitVec.ofInt 64 7).toNat = (n % ((2 ^ 64 : Nat) : Int)).toNat % 2 ^ 3 := by
    rw [BitVec.toNat_and, BitVec.toNat_ofInt, h7, Nat.and_two_pow_sub_one_eq_mod]
  show IntKind.i64.wrap ((BitVec.ofInt 64 n &&& BitVec.ofInt 64 7).toNat : Nat) = n % 8
  rw [key, IntKind.wrap_i64]
  omega

theorem info_int : (Tryz.prog.info? 3).map (fun i => (i.zero, i.size, i.bytes)) = some (some (.int .i64 0), 1, 8) := by kernel_rfl

/-- One arena beside two rows: addresses, and how many words. -/
structure Two (W w : World) (d : Ad) (a : Ab) (ao : Option Addr) (ca : Nat) (xs : List Int) (bo : Option Addr) (cb : Nat) (ys : List Int) : Prop where
  st : St W w d a
  row : RowI 2 w W.heap.size ao ca xs
  row2 : RowI 3 w W.heap.size bo cb ys
  off : Off ao d
  off2 : Off bo d
  ap : ∀ x y, ao = some x → bo = some y → x.block ≠ y.block
section
variable {W w w' : World} {d : Ad} {a a' : Ab} {ao bo : Option Addr} {ca cb g cap' : Nat} {xs ys : List Int} {x : Int}
theorem Two.tn (h : Two W w d a ao ca xs bo cb ys) (s : St W w' d a') (t : Tn w w' d) : Two W w' d a' ao ca xs bo cb ys :=
  ⟨s, h.row.kept fun x hx => t.block _ (h.row.lt x hx).2 (h.off x hx).2.1 (h.off x hx).2.2, h.row2.kept fun x hx => t.block _ (h.row2.lt x hx).2 (h.off2 x hx).2.1 (h.off2 x hx).2.2, h.off, h.off2, h.ap⟩
theorem Two.gr (h : Two W w d a ao ca xs bo cb ys) (g : G w w') : Two W w' d a ao ca xs bo cb ys := ⟨h.st.G g, h.row.grown g, h.row2.grown g, h.off, h.off2, h.ap⟩

theorem own_block {ao : Option Addr} {n c b : Nat} (hb : some b = Value.ownBlock (.slice ao n c)) : ∃ y, ao = some y ∧ y.block = b := by
  cases ao with
  | none => simp [Value.ownBlock] at hb
  | some y => exact ⟨y, rfl, by simpa [Value.ownBlock] using hb.symm⟩
theorem St.appended (h : St W w d a) {n c : Nat} (ho : Off ao d) (hl : ∀ y, ao = some y → W.heap.size ≤ y.block) (hg : w.grownBy w' (Value.ownBlock (.slice ao n c))) : St W w' d a := by
  have keep : ∀ k, k < w.heap.size → (∀ y, ao = some y → y.block ≠ k) → w'.heap[k]? = w.heap[k]? := fun k hk hn => hg.block k hk (fun e => by obtain ⟨y, h1, h2⟩ := own_block e; exact hn y h1 h2)
  refine ⟨h.at_.kept (keep _ h.at_.lt0 fun y hy => (ho y hy).1) (keep _ (h.at_.lt1 h.n8) fun y hy => (ho y hy).2.1) (keep _ (h.at_.lt2 h.n8) fun y hy => (ho y hy).2.2), h.good, ?_, h.tab⟩
  refine ⟨hg.os.trans h.below.os, hg.tape.trans h.below.tape, hg.output.trans h.below.output, Nat.le_trans h.below.size hg.size, fun k hk => ?_⟩
  refine (keep k (Nat.lt_of_lt_of_le hk h.below.size) fun y hy => ?_).trans (h.below.block k hk)
  have := hl y hy
  omega
theorem off_new (h : St W w d a) (ho : Off ao d) (hat : ao = some ⟨g, 0, none⟩ ∨ g = w.heap.size) : Off (some ⟨g, 0, none⟩) d := by
  have l0 := h.at_.lt0
  have l1 := h.at_.lt1 h.n8
  have l2 := h.at_.lt2 h.n8
  intro y hy
  injection hy with hy
  subst hy
  rcases hat with e | e
  · exact ho _ e
  · refine ⟨?_, ?_, ?_⟩ <;> (show g ≠ _; omega)
theorem row_app {e : TypeId} (hr : w'.ownsRow W.heap.size e 1 (.slice (some ⟨g, 0, none⟩) (xs.length + 1) cap') (xs.length + 1) ((xs.map fun x => .int .i64 x) ++ [.int .i64 x])) : RowI e w' W.heap.size (some ⟨g, 0, none⟩) cap' (xs ++ [x]) := by
  unfold RowI
  rw [List.map_append, List.length_append]
  exact hr
theorem Two.app1 (h : Two W w d a ao ca xs bo cb ys)
    (hr : w'.ownsRow W.heap.size 2 1 (.slice (some ⟨g, 0, none⟩) (xs.length + 1) cap') (xs.length + 1) ((xs.map fun x => .int .i64 x) ++ [.int .i64 x]))
    (hg : w.grownBy w' (Value.ownBlock (.slice ao xs.length ca))) (hat : ao = some ⟨g, 0, none⟩ ∨ g = w.heap.size) : Two W w' d a (some ⟨g, 0, none⟩) cap' (xs ++ [x]) bo cb ys := by
  refine ⟨h.st.appended h.off (fun y hy => (h.row.lt y hy).1) hg, row_app hr, h.row2.kept fun y hy => hg.block _ (h.row2.lt y hy).2 (fun e => ?_), off_new h.st h.off hat, h.off2, fun y z hy hz => ?_⟩
  · obtain ⟨u, h1, h2⟩ := own_block e
    exact h.ap u y h1 hy h2
  · injection hy with hy
    subst hy
    rcases hat with e | e
    · exact h.ap _ z e hz
    · have := (h.row2.lt z hz).2
      show g ≠ _
      omega
theorem Two.app2 (h : Two W w d a ao ca xs bo cb ys)
    (hr : w'.ownsRow W.heap.size 3 1 (.slice (some ⟨g, 0, none⟩) (ys.length + 1) cap') (ys.length + 1) ((ys.map fun x => .int .i64 x) ++ [.int .i64 x]))
    (hg : w.grownBy w' (Value.ownBlock (.slice bo ys.length cb))) (hat : bo = some ⟨g, 0, none⟩ ∨ g = w.heap.size) : Two W w' d a ao ca xs (some ⟨g, 0, none⟩) cap' (ys ++ [x]) := by
  refine ⟨h.st.appended h.off2 (fun y hy => (h.row2.lt y hy).1) hg, h.row.kept fun y hy => hg.block _ (h.row.lt y hy).2 (fun e => ?_), row_app hr, h.off, off_new h.st h.off2 hat, fun y z hy hz => ?_⟩
  · obtain ⟨u, h1, h2⟩ := own_block e
    exact h.ap y u hy h1 h2.symm
  · injection hz with hz
    subst hz
    rcases hat with e | e
    · exact h.ap y _ hy e
    · have := (h.row.lt y hy).2
      show _ ≠ g
      omega
end

/-- The round's state. -/
def Q1 (W w : World) (d : Ad) (v : Int) (ao : Option Addr) (ca : Nat) (xs : List Int) (bo : Option Addr) (cb : Nat) (ys : List Int) : Prop := ∃ a, Two W w d a ao ca xs bo cb ys ∧ Ap a v xs ys
/-- While the new place is written. -/
def Q2 (W w : World) (d : Ad) (v : Int) (ao : Option Addr) (ca : Nat) (xs : List Int) (bo : Option Addr) (cb : Nat) (ys : List Int) (x : Int) (n k : Nat) : Prop := ∃ a, Two W w d a ao ca xs bo cb ys ∧ In a v xs ys x n k

section
variable {W w : World} {d : Ad} {v : Int} {ao bo : Option Addr} {ca cb : Nat} {xs ys : List Int}
theorem q_set (h : Hid (Q1 W w d v ao ca xs bo cb ys)) (s c : Int) :
    Calls Tryz.prog 94 #[.pointer (some ⟨d.ab, 0, none⟩), .int .i64 s, .int .i64 c] w fun e w' => ∃ r, e = .returned (.int .i64 r) ∧ Q1 W w' d v ao ca xs bo cb ys := by
  obtain ⟨a, h1, h2⟩ := unhide h
  refine (st_set (hide h1.st) s c).mono ?_
  rintro e w' ⟨rfl, s', t'⟩
  exact ⟨_, rfl, _, h1.tn s' t', h2.set h1.st.good s c⟩
/-- Take: there is no place; or there is one. -/
theorem q_take (h : Hid (Q1 W w d v ao ca xs bo cb ys)) (s : Int) :
    Calls Tryz.prog 92 #[.pointer (some ⟨d.ab, 0, none⟩), .int .i64 s] w fun e w' => ∃ x q, e = .returned (.tuple #[.int .i64 x, .int .i64 q]) ∧
      ((q != 0) = true ∧ Q1 W w' d v ao ca xs bo cb ys ∨ q = 0 ∧ ∃ (c : Int) (n : Nat), gw c = n ∧ n ≤ 64 ∧ Q2 W w' d v ao ca xs bo cb ys x n 0 ∧
        ∀ w1, G w' w1 → Calls Tryz.prog 63 #[.pointer (some ⟨d.ab, 0, none⟩), .int .i64 s] w1 fun e w2 => e = .returned (.int .i64 c) ∧ Q2 W w2 d v ao ca xs bo cb ys x n 0) := by
  obtain ⟨a, h1, h2⟩ := unhide h
  refine (st_take (hide h1.st) s).mono ?_
  rintro e w' ⟨rfl, s', t'⟩
  refine ⟨_, _, rfl, ?_⟩
  by_cases he : a.takeE s = 0
  · right
    obtain ⟨n, hn⟩ := Int.eq_ofNat_of_zero_le (gw_le ((a.takeA s).clsI s)).1
    have hi := h2.start h1.st.good he hn.symm
    refine ⟨he, _, n, hn, by have := (gw_le ((a.takeA s).clsI s)).2; omega, ⟨_, h1.tn s' t', hi⟩, fun w1 g1 => ?_⟩
    refine (st_cls (hide (s'.G g1)) s).mono ?_
    rintro e w2 ⟨rfl, s2, g2⟩
    exact ⟨rfl, _, ((h1.tn s' t').gr g1).gr g2, hi⟩
  · left
    rw [takeA_no he] at s'
    exact ⟨by simpa using he, a, h1.tn s' t', h2⟩
theorem q_read {x : Int} {n k : Nat} (h : Hid (Q2 W w d v ao ca xs bo cb ys x n k)) (hk : k < n) :
    Calls Tryz.prog 51 #[.pointer (some ⟨d.ab, 0, none⟩), .int .i64 x, .int .i64 (k : Int)] w fun e w' => e = .returned (.tuple #[.int .i64 0, .int .i64 0]) ∧ Q2 W w' d v ao ca xs bo cb ys x n k := by
  obtain ⟨a, h1, h2⟩ := unhide h
  obtain ⟨_, e1, e2⟩ := h2.inW hk
  refine (st_read (hide h1.st) x k).mono ?_
  rw [e1, e2]
  rintro e w' ⟨rfl, s', g'⟩
  exact ⟨rfl, a, h1.gr g', h2⟩
theorem q_write {x y : Int} {n k : Nat} (h : Hid (Q2 W w d v ao ca xs bo cb ys x n k)) (hk : k < n) (hy : xv v xs.length = y) :
    Calls Tryz.prog 26 #[.pointer (some ⟨d.ab, 0, none⟩), .int .i64 x, .int .i64 (k : Int), .int .i64 y] w fun e w' => e = .returned (.int .i64 0) ∧ Q2 W w' d v ao ca xs bo cb ys x n (k + 1) := by
  subst hy
  obtain ⟨a, h1, h2⟩ := unhide h
  obtain ⟨_, e1, _⟩ := h2.inW hk
  refine (st_write (hide h1.st) x k (xv v xs.length)).mono ?_
  rw [e1]
  rintro e w' ⟨rfl, s', t'⟩
  exact ⟨rfl, _, h1.tn s' t', h2.step h1.st.good hk⟩
theorem q_last {x n : Int} {i k : Nat} (h : Hid (Q1 W w d v ao ca xs bo cb ys)) (hi : xs[i]? = some x) (hn : ys[i]? = some n) (hk : (k : Int) < n) :
    Calls Tryz.prog 51 #[.pointer (some ⟨d.ab, 0, none⟩), .int .i64 x, .int .i64 (k : Int)] w fun e w' => e = .returned (.tuple #[.int .i64 (xv v i), .int .i64 0]) ∧ Q1 W w' d v ao ca xs bo cb ys := by
  obtain ⟨a, h1, h2⟩ := unhide h
  obtain ⟨e1, e2⟩ := h2.read hi hn hk
  refine (st_read (hide h1.st) x k).mono ?_
  rw [e1, e2]
  rintro e w' ⟨rfl, s', g'⟩
  exact ⟨rfl, a, h1.gr g', h2⟩
theorem Q1.below (h : Q1 W w d v ao ca xs bo cb ys) : Below W.heap.size W w := by
  obtain ⟨a, h1, _⟩ := h
  exact h1.st.below
theorem Q1.get (h : Q1 W w d v ao ca xs bo cb ys) {i : Nat} (hi : i < xs.length) : ∃ x n g g2, xs[i]? = some x ∧ ys[i]? = some n ∧ n ≤ 64 ∧ 0 ≤ n ∧ ao = some ⟨g, 0, none⟩ ∧ bo = some ⟨g2, 0, none⟩ ∧ w.cell? ⟨g, i, none⟩ = some (.int .i64 x) ∧ w.cell? ⟨g2, i, none⟩ = some (.int .i64 n) := by
  obtain ⟨a, h1, h2⟩ := h
  have hl := h2.len
  obtain ⟨x, hx⟩ : ∃ x, xs[i]? = some x := ⟨xs[i]'hi, List.getElem?_eq_getElem _⟩
  obtain ⟨n, hn⟩ : ∃ n, ys[i]? = some n := ⟨ys[i]'(by omega), List.getElem?_eq_getElem _⟩
  obtain ⟨g, e1, c1⟩ := h1.row.get hx
  obtain ⟨g2, e2, c2⟩ := h1.row2.get hn
  have hb := (h2.ent i x n hx hn).2.1
  have := gw_le (a.clsI (gs x))
  exact ⟨x, n, g, g2, hx, hn, by omega, by omega, e1, e2, c1, c2⟩
theorem Q2.rows {x : Int} {n : Nat} (h : Q2 W w d v ao ca xs bo cb ys x n n) (o : Obj) :
    (w.alloc o).ownsRow W.heap.size 2 1 (.slice ao xs.length ca) xs.length (xs.map fun x => .int .i64 x) ∧ Q2 W (w.alloc o) d v ao ca xs bo cb ys x n n ∧ W.heap.size ≤ (w.alloc o).heap.size ∧ ys.length = xs.length := by
  obtain ⟨a, h1, h2⟩ := h
  have h3 := h1.gr (G.alloc w o)
  exact ⟨h3.row, ⟨a, h3, h2⟩, h3.st.below.size, h2.ap.len⟩
/-- Between the two appends. -/
def Q3 (W w : World) (d : Ad) (v : Int) (ao : Option Addr) (ca : Nat) (xs : List Int) (bo : Option Addr) (cb : Nat) (ys : List Int) (x n : Int) : Prop := ∃ a, Two W w d a ao ca (xs ++ [x]) bo cb ys ∧ Ap a v (xs ++ [x]) (ys ++ [n])
theorem Q2.app {w' : World} {x : Int} {n g cap' : Nat} (h : Q2 W w d v ao ca xs bo cb ys x n n)
    (hr : w'.ownsRow W.heap.size 2 1 (.slice (some ⟨g, 0, none⟩) (xs.length + 1) cap') (xs.length + 1) ((xs.map fun x => .int .i64 x) ++ [.int .i64 x]))
    (hg : w.grownBy w' (Value.ownBlock (.slice ao xs.length ca))) (hat : ao = some ⟨g, 0, none⟩ ∨ g = w.heap.size) : Q3 W w' d v (some ⟨g, 0, none⟩) cap' xs bo cb ys x n := by
  obtain ⟨a, h1, h2⟩ := h
  exact ⟨a, h1.app1 hr hg hat, h2.done⟩
theorem Q3.rows {x n : Int} (h : Q3 W w d v ao ca xs bo cb ys x n) (o : Obj) :
    (w.alloc o).ownsRow W.heap.size 3 1 (.slice bo ys.length cb) ys.length (ys.map fun x => .int .i64 x) ∧ Q3 W (w.alloc o) d v ao ca xs bo cb ys x n ∧ W.heap.size ≤ (w.alloc o).heap.size := by
  obtain ⟨a, h1, h2⟩ := h
  have h3 := h1.gr (G.alloc w o)
  exact ⟨h3.row2, ⟨a, h3, h2⟩, h3.st.below.size⟩
theorem Q3.app {w' : World} {x n : Int} {g cap' : Nat} (h : Q3 W w d v ao ca xs bo cb ys x n)
    (hr : w'.ownsRow W.heap.size 3 1 (.slice (some ⟨g, 0, none⟩) (ys.length + 1) cap') (ys.length + 1) ((ys.map fun x => .int .i64 x) ++ [.int .i64 n]))
    (hg : w.grownBy w' (Value.ownBlock (.slice bo ys.length cb))) (hat : bo = some ⟨g, 0, none⟩ ∨ g = w.heap.size) : Q1 W w' d v ao ca (xs ++ [x]) (some ⟨g, 0, none⟩) cap' (ys ++ [n]) := by
  obtain ⟨a, h1, h2⟩ := h
  exact ⟨a, h1.app2 hr hg hat, h2⟩
end
end Go.Proofs.YtgflkpccddfalaaGreatDoor
