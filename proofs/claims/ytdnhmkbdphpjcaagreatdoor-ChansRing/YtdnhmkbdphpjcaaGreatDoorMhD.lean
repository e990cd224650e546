/- Here, one behind the other: CzAwake, CzRing, CzRingLaw. -/
import Derived.Test.YtdnhmkbdphpjcaaGreatDoorMhB
import Derived.Test.YtdnhmkbdphpjcaaGreatDoorArenaBase
/- awake() of package gantlinelaw15 answers true. -/
namespace Go.Proofs.YtdnhmkbdphpjcaaGreatDoor
set_option maxRecDepth 100000
open Go.ChangeShapes Go.WideShapes Go.ChangeAt Go.RowKit Go.Maps Go.Deep

set_option maxHeartbeats 4000000 in
set_option maxRecDepth 100000 in
theorem awake15 (w : World) (ht : Tab w) : Calls Tryz.prog 8 #[] w fun e w' => e = .returned (.bool true) ∧ G w w' := by
  replace ht := hide ht
  go_enter Tryz.func8, Tryz.ntmps8
  go_wp2_with fail
  refine (shapes15 _).mono ?_
  rintro e w1 ⟨rfl, hw1⟩
  have CN := hide (new15 8 (by decide) (by decide) w w1 hw1 (unhide ht))
  have g1 : Hid (G w w1) := hide (by rw [hw1]; exact G.alloc _ _)
  clear hw1
  go_wp2_with fail
  refine (unhide CN).mono ?_
  rintro e w2 ⟨x, rfl, ao, cap, nv, c, S0⟩
  have S1 := hide (S0.gr (G.alloc w2 (.cells #[.slice none 0 0] 35)))
  have C1 := hide (s_make S1 1 (by decide))
  clear S0 CN
  go_wp2_with fail
  refine (unhide C1 _).mono ?_
  rintro e w3 ⟨rfl, S3, _⟩
  replace S3 := hide S3
  have C2 := hide (s_push S3 (by decide) 7 1)
  clear C1 S1
  go_wp2_with fail
  refine (unhide C2).mono ?_
  rintro e w4 ⟨rfl, S4, _⟩
  replace S4 := hide S4
  have C3 := hide (s_push_full S4 (Or.inr (by decide)) 8 1)
  clear C2 S3
  go_wp2_with fail
  refine (unhide C3).mono ?_
  rintro e w5 ⟨rfl, g5⟩
  have S5 := hide ((unhide S4).gr g5)
  have C4 := hide (s_count S5)
  clear C3 S4 g5
  go_wp2_with fail
  refine (unhide C4).mono ?_
  rintro e w6 ⟨rfl, g6⟩
  have S6 := hide ((unhide S5).gr g6)
  have C5 := hide (s_pop S6)
  clear C4 S5 g6
  go_wp2_with fail
  refine (unhide C5).mono ?_
  rintro e w7 ⟨rfl, S7, _⟩
  replace S7 := hide S7
  have C6 := hide (s_close S7)
  clear C5 S6
  go_wp2_with fail
  refine (unhide C6).mono ?_
  rintro e w8 ⟨rfl, S8, _⟩
  replace S8 := hide S8
  have C7 := hide (s_closed S8)
  clear C6 S7
  go_wp2_with fail
  refine (unhide C7).mono ?_
  rintro e w9 ⟨rfl, g9⟩
  have S9 := hide ((unhide S8).gr g9)
  have C8 := hide (s_close_shut S9)
  clear C7 S8 g9
  go_wp2_with fail
  refine (unhide C8).mono ?_
  rintro e w10 ⟨rfl, g10⟩
  have S10 := hide ((unhide S9).gr g10)
  have C9 := hide (s_room S10)
  clear C8 S9 g10
  go_wp2_with fail
  refine (unhide C9).mono ?_
  rintro e w11 ⟨rfl, g11⟩
  have S11 := hide ((unhide S10).gr g11)
  have C10 := hide (s_is S11 false)
  clear C9 S10 g11
  go_wp2_with fail
  refine (unhide C10).mono ?_
  rintro e w12 ⟨rfl, g12⟩
  have S12 := hide ((unhide S11).gr g12)
  have C11 := hide (s_is S12 true)
  clear C10 S11 g12
  go_wp2_with fail
  refine (unhide C11).mono ?_
  rintro e w13 ⟨rfl, g13⟩
  have FIN := hide (Below.trans (unhide g1) (((unhide S12).gr g13).below.mono (unhide g1).size))
  clear C11 S12 g13
  go_wp2_with fail
  go_ret
  exact ⟨rfl, unhide FIN⟩
end Go.Proofs.YtdnhmkbdphpjcaaGreatDoor

/- ChansRing of package gantlinelaw15 answers true. -/
namespace Go.Proofs.YtdnhmkbdphpjcaaGreatDoor
set_option maxRecDepth 100000
open Go.ChangeShapes Go.WideShapes Go.ChangeAt Go.RowKit Go.Maps Go.Deep

/-- What is in the channel behind o taken out and k more put in. -/
def qr (o : Nat) : Nat → List Int
  | 0 => []
  | k + 1 => (3 * (o : Int)) :: qr (o + 1) k
theorem qr_len : ∀ (k o : Nat), (qr o k).length = k
  | 0, _ => rfl
  | k + 1, o => by rw [qr, List.length_cons, qr_len k]
theorem qr_app : ∀ (k o : Nat), qr o k ++ [3 * ((o + k : Nat) : Int)] = qr o (k + 1)
  | 0, o => rfl
  | k + 1, o => by
    rw [qr, List.cons_append, show o + (k + 1) = o + 1 + k by omega, qr_app k (o + 1)]
    rfl
section
variable {W w : World} {x : Hx} {ao : Option Addr} {cap : Nat} {nv : Value} {c : Nat → Nat} {R : Nat}
theorem r_push (o k : Nat) (h : Hid (ChS W x 3 ao cap nv c 64 R (qr o k) false w)) (hk : k < R) (v : Int) (hv : v = 3 * ((o + k : Nat) : Int)) : Calls Tryz.prog 13 #[.pointer (some ⟨x.hb, 0, none⟩), .int .i64 64, .int .i64 v, .int .i64 1] w fun e w' => e = .returned (.bool true) ∧ ChS W x 3 ao cap nv c 64 R (qr o (k + 1)) false w' :=
  (s_push h (by rw [qr_len]; exact hk) v 1).mono fun _ _ hh => ⟨hh.1, by have := hh.2.1; rw [hv, qr_app] at this; exact this⟩
theorem r_pop (o k : Nat) (h : Hid (ChS W x 3 ao cap nv c 64 R (qr o (k + 1)) false w)) (v : Int) (hv : 3 * (o : Int) = v) : Calls Tryz.prog 12 #[.pointer (some ⟨x.hb, 0, none⟩), .int .i64 64] w fun e w' => e = .returned (.tuple #[.int .i64 v, .bool true]) ∧ ChS W x 3 ao cap nv c 64 R (qr (o + 1) k) false w' := by
  subst hv
  exact (s_pop h).mono fun _ _ hh => ⟨hh.1, hh.2.1⟩
end
/-- Where the loop stands: o taken out, i put in. -/
structure RgI (n R A : Nat) (i o : Nat) : Prop where
  a : o ≤ i
  b : i ≤ n
  c : i - o + 1 ≤ A
  d : A ≤ R
  e : R ≤ 59
  f : n ≤ 300
theorem wr_of {x y : Int} (h : y = x) (h1 : -100000 ≤ x) (h2 : x ≤ 100000) : wrap64 y = x := by subst h; unfold wrap64; omega
theorem rg_facts {N R M i o : Nat} (I : RgI N R M i o) (h : i < N) : ∃ v k k1 i1 u o1 : Int, wrap64 (3 * (i : Int)) = v ∧ v = 3 * ((o + (i - o) : Nat) : Int) ∧ i - o < R ∧ wrap64 ((i : Int) - (o : Int)) = k ∧ wrap64 (k + 1) = k1 ∧ wrap64 ((i : Int) + 1) = i1 ∧ i1 = ((i + 1 : Nat) : Int) ∧ wrap64 (3 * (o : Int)) = u ∧ 3 * (o : Int) = u ∧ wrap64 ((o : Int) + 1) = o1 ∧ o1 = ((o + 1 : Nat) : Int) ∧
    ((M : Int) ≤ k1 → RgI N R M (i + 1) (o + 1) ∧ i + 1 - (o + 1) = i - o) ∧ (¬ (M : Int) ≤ k1 → RgI N R M (i + 1) o ∧ i + 1 - o = i - o + 1) ∧ N - i1.toNat < N - ((i : Int)).toNat := by
  obtain ⟨a, b, c, d, e, f⟩ := I
  refine ⟨3 * (i : Int), (i : Int) - o, (i : Int) - o + 1, (i : Int) + 1, 3 * (o : Int), (o : Int) + 1, wr_of rfl (by omega) (by omega), by omega, by omega, wr_of rfl (by omega) (by omega), wr_of rfl (by omega) (by omega), wr_of rfl (by omega) (by omega), by omega, wr_of rfl (by omega) (by omega), rfl, wr_of rfl (by omega) (by omega), by omega, fun h => ⟨⟨by omega, by omega, by omega, d, e, f⟩, by omega⟩, fun h => ⟨⟨by omega, by omega, by omega, d, e, f⟩, by omega⟩, by omega⟩
theorem rg_end {N R M i o : Nat} (I : RgI N R M i o) (h : i = N) : ∃ k : Int, k = ((qr o (i - o)).length : Int) ∧ wrap64 ((N : Int) - (o : Int)) = k ∧ ¬ ((i : Int) < (N : Int)) ∧ ¬ (i < N) := by
  obtain ⟨a, b, c, d, e, f⟩ := I
  exact ⟨_, rfl, by rw [qr_len]; exact wr_of (by omega) (by omega) (by omega), by omega, by omega⟩
theorem rg_lt {N R M i o : Nat} (I : RgI N R M i o) (h : ¬ i = N) : i < N := by have := I.b; omega
set_option maxHeartbeats 4000000 in
set_option maxRecDepth 100000 in
theorem ring15 (w : World) (ht : Tab w) (r n A : Int) (CA : Hid (Calls Tryz.prog 8 #[] w fun e w' => e = .returned (.bool true) ∧ G w w')) : Calls Tryz.prog 6 #[.int .i64 r, .int .i64 n, .int .i64 A] w fun e w' => e = .returned (.bool true) ∧ G w w' := by
  replace ht := hide ht
  by_cases hout : r < 1 ∨ 59 < r ∨ n < 0 ∨ 300 < n ∨ A < 1 ∨ r < A
  · by_cases h1 : r < 1
    · clear hout
      go_enter Tryz.func6, Tryz.ntmps6
      go_wp2_with fail
      refine (unhide CA).mono ?_
      rintro e w1 ⟨rfl, g1⟩
      replace g1 := hide g1
      clear CA
      go_wp2_with fail
      go_ret
      exact ⟨rfl, unhide g1⟩
    have d1 : decide (r < 1) = false := by simp; omega
    by_cases h2 : 59 < r
    · clear hout h1
      go_enter Tryz.func6, Tryz.ntmps6
      go_wp2_with fail
      refine (unhide CA).mono ?_
      rintro e w1 ⟨rfl, g1⟩
      replace g1 := hide g1
      clear CA
      go_wp2_with fail
      go_ret
      exact ⟨rfl, unhide g1⟩
    have d2 : decide (59 < r) = false := by simp; omega
    by_cases h3 : n < 0
    · clear hout h1 h2
      go_enter Tryz.func6, Tryz.ntmps6
      go_wp2_with fail
      refine (unhide CA).mono ?_
      rintro e w1 ⟨rfl, g1⟩
      replace g1 := hide g1
      clear CA
      go_wp2_with fail
      go_ret
      exact ⟨rfl, unhide g1⟩
    have d3 : decide (n < 0) = false := by simp; omega
    by_cases h4 : 300 < n
    · clear hout h1 h2 h3
      go_enter Tryz.func6, Tryz.ntmps6
      go_wp2_with fail
      refine (unhide CA).mono ?_
      rintro e w1 ⟨rfl, g1⟩
      replace g1 := hide g1
      clear CA
      go_wp2_with fail
      go_ret
      exact ⟨rfl, unhide g1⟩
    have d4 : decide (300 < n) = false := by simp; omega
    by_cases h5 : A < 1
    · clear hout h1 h2 h3 h4
      go_enter Tryz.func6, Tryz.ntmps6
      go_wp2_with fail
      refine (unhide CA).mono ?_
      rintro e w1 ⟨rfl, g1⟩
      replace g1 := hide g1
      clear CA
      go_wp2_with fail
      go_ret
      exact ⟨rfl, unhide g1⟩
    have d5 : decide (A < 1) = false := by simp; omega
    have h6 : r < A := by omega
    clear hout h1 h2 h3 h4 h5
    go_enter Tryz.func6, Tryz.ntmps6
    go_wp2_with fail
    refine (unhide CA).mono ?_
    rintro e w1 ⟨rfl, g1⟩
    replace g1 := hide g1
    clear CA
    go_wp2_with fail
    go_ret
    exact ⟨rfl, unhide g1⟩
  obtain ⟨R, rfl⟩ : ∃ R : Nat, r = R := ⟨r.toNat, by omega⟩
  obtain ⟨N, rfl⟩ : ∃ N : Nat, n = N := ⟨n.toNat, by omega⟩
  obtain ⟨M, rfl⟩ : ∃ M : Nat, A = M := ⟨A.toNat, by omega⟩
  have d1 : decide ((R : Int) < 1) = false := by simp; omega
  have d2 : decide ((59 : Int) < (R : Int)) = false := by simp; omega
  have d3 : decide ((N : Int) < 0) = false := by simp
  have d4 : decide ((300 : Int) < (N : Int)) = false := by simp; omega
  have d5 : decide ((M : Int) < 1) = false := by simp; omega
  have d6 : decide ((R : Int) < (M : Int)) = false := by simp; omega
  have d6' : decide (R < M) = false := by simp; omega
  have hI0 : Hid (RgI N R M 0 0) := hide ⟨by omega, by omega, by omega, by omega, by omega, by omega⟩
  have hR : Hid (R ≤ 59) := hide (by omega)
  clear hout
  go_enter Tryz.func6, Tryz.ntmps6
  go_wp2_with fail
  refine (unhide CA).mono ?_
  rintro e w0 ⟨rfl, g0⟩
  replace g0 := hide g0
  clear CA
  go_wp2_with fail
  refine (shapes15 _).mono ?_
  rintro e w1 ⟨rfl, hw1⟩
  have CN := hide (new15 8 (by decide) (by decide) w0 w1 hw1 (Tab.later (unhide ht) (unhide g0)))
  have g1 : Hid (G w w1) := hide ((unhide g0).trans (by rw [hw1]; exact G.alloc _ _))
  clear hw1 g0 ht
  go_wp2_with fail
  refine (unhide CN).mono ?_
  rintro e w2 ⟨x, rfl, ao, cap, nv, c, S0⟩
  have S1 := hide (S0.gr (G.alloc w2 (.cells #[.slice none 0 0] 35)))
  have C1 := hide (s_make S1 R (unhide hR))
  clear S0 CN
  go_wp2_with fail
  refine (unhide C1 _).mono ?_
  rintro e w3 ⟨rfl, S3, _⟩
  replace S3 : Hid (ChS w1 x 3 ao cap nv c 64 R (qr 0 0) false w3) := hide S3
  have FIN : Hid (∀ y : World, Below w1.heap.size w1 y → G w y) := hide fun y b => Below.trans (unhide g1) (b.mono (unhide g1).size)
  clear C1 S1 g1 d1 d2 d3 d4 d5 d6 d6' hR
  go_wp2_with fail
  go_loopw [11, 12] (fun co ci wr => ∃ i o : Nat, co = .int .i64 (o : Int) ∧ ci = .int .i64 (i : Int) ∧ Hid (RgI N R M i o) ∧ Hid (ChS w1 x 3 ao cap nv c 64 R (qr o (i - o)) false wr)) (fun _ ci _ => N - (intOf ci).toNat)
  case atStart => exact ⟨0, 0, rfl, rfl, hI0, S3⟩
  case round =>
    obtain ⟨i, o, rfl, rfl, I, S⟩ := hrel
    clear S3 hI0
    by_cases hi : i = N
    · obtain ⟨k, hk, hk2, hnl, hnl'⟩ := rg_end (unhide I) hi
      have C := hide (s_count S)
      rw [← hk] at C
      clear hk hi I
      go_wp2_with fail
      refine (unhide C).mono ?_
      rintro e w5 ⟨rfl, g5⟩
      have B5 := hide (unhide FIN _ ((unhide S).gr g5).below)
      clear C g5 S
      go_wp2_with fail
      go_ret
      exact ⟨by simp, unhide B5⟩
    · have hlt' := rg_lt (unhide I) hi
      have hlt : (i : Int) < (N : Int) := Int.ofNat_lt.2 hlt'
      obtain ⟨v, k, k1, i1, u, o1, hw3, hv, hlR, hwk, hwk1, hwi1, hi1, hw4, hu, hwo1, ho1, hy, hn, DC⟩ := rg_facts (unhide I) hlt'
      have C := hide (r_push o (i - o) S hlR v hv)
      have CP : Hid (∀ y, ChS w1 x 3 ao cap nv c 64 R (qr o (i - o + 1)) false y → _) := hide fun y hy => r_pop o (i - o) (hide hy) u hu
      replace DC := hide DC
      replace hi1 := hide hi1
      replace ho1 := hide ho1
      have huu : (u != u) = false := by simp
      by_cases hA : (M : Int) ≤ k1
      · obtain ⟨I', hS'⟩ := hy hA
        replace I' := hide I'
        replace hS' := hide hS'
        clear hi hv hu I S hy hn hlR
        go_wp2_with fail
        refine (unhide C).mono ?_
        rintro e w5 ⟨rfl, S5⟩
        have CP5 := hide (unhide CP w5 S5)
        clear C CP S5
        go_wp2_with fail
        refine (unhide CP5).mono ?_
        rintro e w6 ⟨rfl, S6⟩
        replace S6 := hide S6
        clear CP5
        go_wp2_with fail
        go_roundw
        case rel => exact ⟨i + 1, o + 1, by first | rw [unhide ho1] | rw [hwo1, unhide ho1], by first | rw [hwi1, unhide hi1] | rw [unhide hi1], I', by rw [unhide hS']; exact S6⟩
        case measure => first | (rw [hwi1]; exact unhide DC) | exact unhide DC
      · obtain ⟨I', hS'⟩ := hn hA
        replace I' := hide I'
        replace hS' := hide hS'
        clear hi hv hu I S hy hn hlR CP hwo1 hw4 ho1 huu
        go_wp2_with fail
        refine (unhide C).mono ?_
        rintro e w5 ⟨rfl, S5⟩
        replace S5 := hide S5
        clear C
        go_wp2_with fail
        go_roundw
        case rel => exact ⟨i + 1, o, rfl, by first | rw [hwi1, unhide hi1] | rw [unhide hi1], I', by rw [unhide hS']; exact S5⟩
        case measure => first | (rw [hwi1]; exact unhide DC) | exact unhide DC
end Go.Proofs.YtdnhmkbdphpjcaaGreatDoor

/- ChansRing of package gantlinelaw15: for every room, every number of things and every way ahead the law answers true; nothing that was there is turned. -/
namespace Go.Proofs.YtdnhmkbdphpjcaaGreatDoor
set_option maxRecDepth 100000
open Go.ChangeShapes Go.WideShapes Go.ChangeAt Go.RowKit Go.Maps

theorem walk_ChansRing (r n A : Int) {P Q S : Prop} (_ : P) (_ : Q) (_ : S) (w : World) (ht : Tab w) : Calls Tryz.prog 6 #[.int .i64 r, .int .i64 n, .int .i64 A] w fun e w' => e = .returned (.bool true) ∧ Below w.heap.size w w' :=
  ring15 w ht r n A (hide (awake15 w ht))


set_option maxRecDepth 100000 in
theorem lifted_ChansRing (os : Os) (started : os.Started) (H : Type) (enc : TypeId × Value → H) :
    ReturnsInHanded {} Tryz.checked os 6 .any (fun w args => (Rows.chansRingSpec.pre enc Tryz.prog Tryz.f6 [] false w args ∧ laidMetH Tryz.prog laidTab w) ∧ sizedMet enc Tryz.prog Tryz.f6 (OpenSpec.ofChange Rows.chansRingSpec) false w args)
      (Rows.chansRingSpec.post enc Tryz.prog Tryz.f6 false true false false) := by
  refine returnsInHanded_of_change_and (C := Tryz.checked) (X := fun w _ => laidMetH Tryz.prog laidTab w) (fun _ _ _ hh h => h.of_heap hh) own started (by kernel_rfl) Tryz.func6
    (ChangeSpec.witness_shaped (enc := enc) (C := Tryz.checked) (os := os) (X := fun w _ => laidMetH Tryz.prog laidTab w) false (World.doorLaid Tryz.prog 400 os) #[.int .i64 0, .int .i64 0, .int .i64 0] 8 rfl (World.shaped_of_RefB (by kernel_rfl) (by kernel_rfl)) (by kernel_rfl) (by kernel_rfl) (by kernel_rfl) (door_met os _)) ?_
  intro W base args ds gs before hval0 hW _ _ hL _
  have hval : ∀ (j : Nat) t v, Tryz.f6.params[j]? = some t → args[j]? = some v → Value.okWide Tryz.prog W .any base t v := hval0
  have hW' := hW
  obtain ⟨p, q, hA0, hV, rfl, hfz, hnd⟩ := hW
  have hA : DataW.TrodAll enc Tryz.prog W 0 (fun _ => true) true Tryz.f6.params.toList args.toList ds p := hA0
  rw [Tryz.params6] at hA hval
  obtain ⟨v0, vs0, d0, ds0, p0, q0, hargs, rfl, rfl, h0, r0⟩ := trodAll_cons hA
  obtain ⟨v1, vs1, d1, ds1, p1, q1, rfl, rfl, rfl, h1, r1⟩ := trodAll_cons r0
  obtain ⟨v2, vs2, d2, ds2, p2, q2, rfl, rfl, rfl, h2, r2⟩ := trodAll_cons r1
  obtain ⟨rfl, rfl, rfl⟩ := trodAll_nil r2
  obtain rfl : args = #[v0, v1, v2] := by cases args; simp_all
  obtain ⟨rfl, rfl⟩ := trodVars_none hV
  have k0 := h0
  have lt0 : ∀ x ∈ p0, x.block < W.heap.size := by obtain ⟨m, hm⟩ := k0; exact DataW.trod_lt m _ _ _ hm
  obtain ⟨a0, rfl, rfl, rfl, w0⟩ := open_int Tryz.underlying2 (hval 0 2 v0 rfl rfl) h0
  have k1 := h1
  have lt1 : ∀ x ∈ p1, x.block < W.heap.size := by obtain ⟨m, hm⟩ := k1; exact DataW.trod_lt m _ _ _ hm
  obtain ⟨a1, rfl, rfl, rfl, w1⟩ := open_int Tryz.underlying3 (hval 1 3 v1 rfl rfl) h1
  have k2 := h2
  have lt2 : ∀ x ∈ p2, x.block < W.heap.size := by obtain ⟨m, hm⟩ := k2; exact DataW.trod_lt m _ _ _ hm
  obtain ⟨a2, rfl, rfl, rfl, w2⟩ := open_int Tryz.underlying3 (hval 2 3 v2 rfl rfl) h2
  clear hA0 hval0
  refine (walk_ChansRing a0 a1 a2 w0 w1 w2 W (tab_of_laid hL)).mono fun e W' ⟨he, hg⟩ => ?_
  subst he
  exact ⟨_, rfl, _, _, _, [], _, [], hW', trodAll_mk1 (shut_bool Tryz.underlying4 _), (trodAll_cons_mk (Below.trod laidOut (by kernel_rfl) (of_decide_eq_true (by kernel_rfl)) k0 hg lt0) (trodAll_cons_mk (Below.trod laidOut (by kernel_rfl) (of_decide_eq_true (by kernel_rfl)) k1 hg lt1) (trodAll_cons_mk (Below.trod laidOut (by kernel_rfl) (of_decide_eq_true (by kernel_rfl)) k2 hg lt2) trodAll_mk0))), rfl, hg.frame _, fun h => by cases h⟩

theorem row_ChansRing : Rows.ChansRingSaid :=
  OpenClaim.holds_of_wide 6 Tryz.f6 rfl rfl rfl rfl rfl rfl rfl ⟨rfl, rfl, rfl, rfl, rfl⟩ rfl rfl rfl rfl rfl (by kernel_rfl) Tryz.func6 (by kernel_rfl)
    (of_decide_eq_true (by kernel_rfl)) (by unfold Func.isWrapper; first | (rw [if_pos (by decide +kernel)]; kernel_rfl) | (rw [if_neg (by decide +kernel)]; exact ⟨rfl, rfl⟩))
    (fun os started H enc _ => lifted_ChansRing os started H enc)

/-- THE STATEMENT. -/
theorem card_ChansRing : Rows.ChansRingCardSaid :=
  Claim7.holds_tied_plain_at .later [] [.data] true (true, "368da1e00eac6e8e0aa7ff665da126c835f5eab69b056edefd9d7854840e21d8") false
    row_ChansRing (fun _ h => by cases h) (by kernel_rfl) (fun _ h => by cases h) chansRing_row_tie rfl ⟨rfl, rfl⟩ (by kernel_rfl) rfl
    (fun f fn hf hfn => by
      obtain rfl : f = 6 := Option.some.inj ((show Tryz.prog.funcNamed "gantline/gantlinelaw15.ChansRing" = some 6 by kernel_rfl).symm.trans hf) |>.symm
      obtain rfl : fn = Tryz.f6 := (Option.some.inj (Tryz.func6.symm.trans hfn)).symm
      exact ⟨by kernel_rfl, fun j t ht => by
        rw [Tryz.params6] at ht
        have hm : t ∈ [2, 3, 3] := by simpa using Array.mem_of_getElem? ht
        have hall : ([2, 3, 3].all fun u => !Tryz.prog.wantsStandIn u) = true := by kernel_rfl
        exact (show Tryz.prog.wantsStandIn t = false by simpa using List.all_eq_true.1 hall t hm)⟩)
    (by kernel_rfl)
#print axioms card_ChansRing
end Go.Proofs.YtdnhmkbdphpjcaaGreatDoor
