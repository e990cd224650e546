/- The contracts of an Arena's calls that only read. -/
import Derived.Test.YtgflkpccddfalaaGreatDoorArenaMem
namespace Go.Proofs.YtgflkpccddfalaaGreatDoor
set_option maxRecDepth 100000
open Go.RowKit Go.Maps Go.ChangeShapes Go.WideShapes Go.ChangeAt

set_option maxHeartbeats 400000 in
theorem has_any (w : World) (ab sb n cs : Nat) (s : Int) (c1 : w.cell? ⟨ab, 1, none⟩ = some (.slice (some ⟨sb, 0, none⟩) n cs)) :
    Calls Tryz.prog 56 #[.pointer (some ⟨ab, 0, none⟩), .int .i64 s] w fun e w' => e = .returned (.bool (hasB n s)) ∧ w' = w := by
  by_cases h : 1 ≤ s
  · have hb : hasB n s = decide (s < n) := by simp [hasB, h]
    rw [hb]
    go_enter Tryz.func56, Tryz.ntmps56
    go_wp2
    go_ret
    exact ⟨by simp, rfl⟩
  · have hb : hasB n s = false := by simp [hasB, h]
    rw [hb]
    have hd : decide (1 ≤ s) = false := by simpa using h
    go_enter Tryz.func56, Tryz.ntmps56
    go_wp2
    go_ret
    exact ⟨by simp, rfl⟩

set_option maxHeartbeats 400000 in
theorem look_no (w : World) (ab sb n cs : Nat) (s : Int) (c1 : w.cell? ⟨ab, 1, none⟩ = some (.slice (some ⟨sb, 0, none⟩) n cs)) (hh : hasB n s = false) :
    Calls Tryz.prog 37 #[.pointer (some ⟨ab, 0, none⟩), .int .i64 s] w fun e w' => e = .returned (.agg #[.int .i64 (-1), .int .u64 0, .int .u64 0]) ∧ G w w' := by
  have hlt : ab < w.heap.size := World.block_lt_of_cell? w _ c1
  have C1 := hide (fun o => Lib.cell?_alloc_some o c1)
  go_enter Tryz.func37, Tryz.ntmps37
  go_wp2_with (go_at_call 56; refine (has_any _ _ sb n cs _ (unhide C1 _)).mono ?_; rintro e w' ⟨rfl, rfl⟩)
  go_returns
  exact ⟨rfl, by go_grown⟩

set_option maxHeartbeats 400000 in
theorem look_yes (w : World) (ab sb n cs : Nat) (s : Nat) (c t m : Int) (c1 : w.cell? ⟨ab, 1, none⟩ = some (.slice (some ⟨sb, 0, none⟩) n cs)) (hh : hasB n s = true) (hsn : s < n)
    (e0 : w.cell? ⟨sb, s * 3, none⟩ = some (.int .i64 c)) (e1 : w.cell? ⟨sb, s * 3 + 1, none⟩ = some (.int .u64 t)) (e2 : w.cell? ⟨sb, s * 3 + 2, none⟩ = some (.int .u64 m)) :
    Calls Tryz.prog 37 #[.pointer (some ⟨ab, 0, none⟩), .int .i64 (s : Int)] w fun e w' => e = .returned (.agg #[.int .i64 c, .int .u64 t, .int .u64 m]) ∧ G w w' := by
  have hlt : ab < w.heap.size := World.block_lt_of_cell? w _ c1
  have C1 := hide (fun o => Lib.cell?_alloc_some o c1)
  have hls : sb < w.heap.size := World.block_lt_of_cell? w _ e0
  go_enter Tryz.func37, Tryz.ntmps37
  go_wp2_with (go_at_call 56; refine (has_any _ _ sb n cs _ (unhide C1 _)).mono ?_; rintro e w' ⟨rfl, rfl⟩)
  go_returns
  exact ⟨rfl, by go_grown⟩

theorem look_any (w : World) (B : Nat) (d : Ad) (a : Ab) (h : AreAt w B d a) (s : Int) :
    Calls Tryz.prog 37 #[d.ptr, .int .i64 s] w fun e w' => e = .returned (.agg #[.int .i64 (a.clsI s), .int .u64 (a.tkI s : Int), .int .u64 (a.mrI s : Int)]) ∧ G w w' := by
  by_cases hs : 1 ≤ s ∧ s < a.n
  · obtain ⟨k, rfl⟩ := Int.eq_ofNat_of_zero_le (show 0 ≤ s by omega)
    obtain ⟨e0, e1, e2⟩ := a.I_at (s := k) (by omega) (by omega)
    rw [e0, e1, e2]
    exact look_yes w d.ab d.sb a.n d.cs k _ _ _ h.c1 (hasB_iff.2 hs) (by omega) (h.s0 k (by omega)) (h.s1 k (by omega)) (h.s2 k (by omega))
  · obtain ⟨e0, e1, e2⟩ := a.I_no hs
    rw [e0, e1, e2]
    exact look_no w d.ab d.sb a.n d.cs s h.c1 (by rw [← Bool.not_eq_true, hasB_iff]; exact hs)

theorem fld0 (x y z : Value) (w : World) : (Instr.field 90 (.agg #[x, y, z]) 0).run Tryz.prog w = .ok x w := by kernel_rfl
theorem fld1 (x y z : Value) (w : World) : (Instr.field 90 (.agg #[x, y, z]) 1).run Tryz.prog w = .ok y w := by kernel_rfl
theorem fld2 (x y z : Value) (w : World) : (Instr.field 90 (.agg #[x, y, z]) 2).run Tryz.prog w = .ok z w := by kernel_rfl

set_option maxHeartbeats 400000 in
theorem class_core (w : World) (p : Value) (s c t m : Int) (C : Hid (Calls Tryz.prog 37 #[p, .int .i64 s] w fun e w' => e = .returned (.agg #[.int .i64 c, .int .u64 t, .int .u64 m]) ∧ G w w')) :
    Calls Tryz.prog 63 #[p, .int .i64 s] w fun e w' => e = .returned (.int .i64 c) ∧ G w w' := by
  have hf := fld0
  go_enter Tryz.func63, Tryz.ntmps63
  go_wp2_with fail
  refine (unhide C).mono ?_
  rintro e w1 ⟨rfl, g⟩
  replace g := hide g
  go_wp2_with fail
  go_ret
  exact ⟨rfl, unhide g⟩
set_option maxHeartbeats 400000 in
theorem taken_core (w : World) (p : Value) (s c t m : Int) (C : Hid (Calls Tryz.prog 37 #[p, .int .i64 s] w fun e w' => e = .returned (.agg #[.int .i64 c, .int .u64 t, .int .u64 m]) ∧ G w w')) :
    Calls Tryz.prog 14 #[p, .int .i64 s] w fun e w' => e = .returned (.int .u64 t) ∧ G w w' := by
  have hf := fld1
  go_enter Tryz.func14, Tryz.ntmps14
  go_wp2_with fail
  refine (unhide C).mono ?_
  rintro e w1 ⟨rfl, g⟩
  replace g := hide g
  go_wp2_with fail
  go_ret
  exact ⟨rfl, unhide g⟩
set_option maxHeartbeats 400000 in
theorem spans_core (w : World) (ab sb n cs : Nat) (c1 : w.cell? ⟨ab, 1, none⟩ = some (.slice (some ⟨sb, 0, none⟩) n cs)) :
    Calls Tryz.prog 60 #[.pointer (some ⟨ab, 0, none⟩)] w fun e w' => e = .returned (.int .i64 n) ∧ w' = w := by
  go_enter Tryz.func60, Tryz.ntmps60
  go_wp2
  go_ret
  exact ⟨rfl, rfl⟩

theorem class_at (w : World) (B : Nat) (d : Ad) (a : Ab) (h : AreAt w B d a) (s : Int) :
    Calls Tryz.prog 63 #[d.ptr, .int .i64 s] w fun e w' => e = .returned (.int .i64 (a.clsI s)) ∧ G w w' := class_core w _ s _ _ _ (hide (look_any w B d a h s))
theorem taken_at (w : World) (B : Nat) (d : Ad) (a : Ab) (h : AreAt w B d a) (s : Int) :
    Calls Tryz.prog 14 #[d.ptr, .int .i64 s] w fun e w' => e = .returned (.int .u64 (a.tkI s : Int)) ∧ G w w' := taken_core w _ s _ _ _ (hide (look_any w B d a h s))
/-! ### find -/
/-- One bit of a map. -/
def bitI (t : Nat) (p : Int) : Int := if 0 ≤ p ∧ t.testBit p.toNat = true then 1 else 0
theorem fieldN_bit (x a : Nat) : (fieldN x a 1 : Int) = bitI x a := by
  unfold fieldN bitI
  rw [Nat.testBit_eq_decide_div_mod_eq]
  by_cases h : x / 2 ^ a % 2 = 1
  · rw [if_pos (by simpa using h), Nat.pow_one, h]; rfl
  · rw [if_neg (by simpa using h), Nat.pow_one, show x / 2 ^ a % 2 = 0 by omega]; rfl
theorem bit_any (x : Nat) (p : Int) (w : World) (hx : x < 4294967296) (h0 : -1 ≤ p) (h1 : p ≤ 63) :
    Calls Tryz.prog 59 #[.int .u64 (x : Int), .int .i64 p, .int .i64 1] w fun e w' => e = .returned (.int .u64 (bitI x p)) ∧ ∃ k, w' = w.drewN k := by
  by_cases hp : p < 0
  · have : bitI x p = 0 := by unfold bitI; rw [if_neg (by omega)]
    rw [this]
    refine (field_out x p 1 w (by decide) (Or.inl hp)).mono ?_
    rintro e w' ⟨rfl, rfl⟩
    exact ⟨rfl, 0, rfl⟩
  · obtain ⟨q, rfl⟩ := Int.eq_ofNat_of_zero_le (show 0 ≤ p by omega)
    rw [← fieldN_bit]
    exact field_any x q 1 w (by omega) (by omega)

theorem gpl_r (x c : Int) : -1 ≤ gpl x c ∧ gpl x c ≤ 63 := by
  unfold gpl
  rcases gw_gp c with ⟨e, _⟩ | ⟨_, h1, h2, _⟩
  · rw [if_pos e]; omega
  · rw [if_neg (by omega)]
    split
    · omega
    split
    · omega
    split
    · have h3 : 0 ≤ x % 64 / gw c := Int.ediv_nonneg (by omega) (by omega)
      have h4 : x % 64 / gw c ≤ x % 64 := Int.ediv_le_self _ (by omega)
      omega
    · omega

set_option maxHeartbeats 400000 in
theorem find_core (w : World) (p : Value) (x s c m q : Int) (t : Nat) (b : Bool) (ht : t < 4294967296) (hs : Hid (gs x = s)) (hq : Hid (gpl x c = q)) (h0 : -1 ≤ q) (h1 : q ≤ 63) (hb : (bitI t q == 1) = b)
    (C : Hid (Calls Tryz.prog 37 #[p, .int .i64 s] w fun e w' => e = .returned (.agg #[.int .i64 c, .int .u64 t, .int .u64 m]) ∧ G w w')) :
    Calls Tryz.prog 38 #[p, .int .i64 x] w fun e w' => e = .returned (.tuple #[.int .i64 s, .int .i64 q, .bool b]) ∧ G w w' := by
  go_enter Tryz.func38, Tryz.ntmps38
  go_wp2_with fail
  refine (span_any _ _).mono ?_
  rw [unhide hs]
  rintro e w1 ⟨rfl, rfl⟩
  go_wp2_with fail
  refine (unhide C).mono ?_
  rintro e w1 ⟨rfl, g⟩
  replace g := hide g
  go_wp2_with fail
  refine (place_any _ _ _).mono ?_
  rw [unhide hq]
  rintro e w2 ⟨rfl, rfl⟩
  go_wp2_with fail
  refine (bit_any _ _ _ ht h0 h1).mono ?_
  rintro e w2 ⟨rfl, k, rfl⟩
  go_wp2_with fail
  go_returns
  exact ⟨rfl, below_drewN ((unhide g).more _) k⟩

theorem Ab.is_bit {a : Ab} (x : Int) : (bitI (a.tkI (gs x)) (a.pl x) == 1) = a.is x := by
  unfold bitI Ab.is Ab.pl
  by_cases hs : 1 ≤ gs x ∧ gs x < a.n
  · have e1 : a.tkI (gs x) = a.tk (gs x).toNat := by unfold Ab.tkI; rw [if_pos hs]
    rw [e1]
    by_cases hp : 0 ≤ gpl x (a.clsI (gs x))
    · have hc : 0 ≤ a.clsI (gs x) := by
        by_cases hc : 0 ≤ a.clsI (gs x)
        · exact hc
        · rw [gpl_no (gw_lo (by omega))] at hp; omega
      cases hb : (a.tk (gs x).toNat).testBit (gpl x (a.clsI (gs x))).toNat <;> simp [hp, hc]
    · simp [hp]
  · obtain ⟨e0, e1, _⟩ := a.I_no hs
    rw [e0, e1]
    simp

theorem find_at (w : World) (B : Nat) (d : Ad) (a : Ab) (h : AreAt w B d a) (g : a.Good) (x : Int) :
    Calls Tryz.prog 38 #[d.ptr, .int .i64 x] w fun e w' => e = .returned (.tuple #[.int .i64 (gs x), .int .i64 (a.pl x), .bool (a.is x)]) ∧ G w w' :=
  find_core w _ x (gs x) (a.clsI (gs x)) _ (a.pl x) (a.tkI (gs x)) (a.is x) (g.tkIb _) (hide rfl) (hide rfl) (gpl_r _ _).1 (gpl_r _ _).2 (Ab.is_bit x) (hide (look_any w B d a h (gs x)))

set_option maxHeartbeats 400000 in
theorem is_core (w : World) (p : Value) (x s q : Int) (b : Bool)
    (C : Hid (Calls Tryz.prog 38 #[p, .int .i64 x] w fun e w' => e = .returned (.tuple #[.int .i64 s, .int .i64 q, .bool b]) ∧ G w w')) :
    Calls Tryz.prog 15 #[p, .int .i64 x] w fun e w' => e = .returned (.bool b) ∧ G w w' := by
  go_enter Tryz.func15, Tryz.ntmps15
  go_wp2_with fail
  refine (unhide C).mono ?_
  rintro e w1 ⟨rfl, g⟩
  replace g := hide g
  go_wp2_with fail
  go_ret
  exact ⟨rfl, unhide g⟩
theorem is_at (w : World) (B : Nat) (d : Ad) (a : Ab) (h : AreAt w B d a) (g : a.Good) (x : Int) :
    Calls Tryz.prog 15 #[d.ptr, .int .i64 x] w fun e w' => e = .returned (.bool (a.is x)) ∧ G w w' := is_core w _ x _ _ _ (hide (find_at w B d a h g x))
end Go.Proofs.YtgflkpccddfalaaGreatDoor
