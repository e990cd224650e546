/- FrameDeep: calls upon calls keep their own slots: each tells its own again when those above have returned; no more than there may be. No condition. -/
import Derived.Test.YtiaogffnkblmkaaDoorFmAwake2
import Derived.Test.YtiaogffnkblmkaaDoorCodeOpen
namespace Go.Proofs.YtiaogffnkblmkaaDoor
open Go.RowKit Go.Maps Go.ChangeShapes Go.WideShapes Go.ChangeAt Go.Deep

def dpS (v : Int) (i : Nat) : List Int := if i = 0 then [v, 0] else [bits .xor .i64 v (i : Int), 1000 + (i : Int)]
/-- So many calls, each with its own slots. -/
def DpI (v : Int) (W wr : World) (B s n : Nat) : Prop := ∃ vv L, AwS W wr B s vv L [] ∧ L.length = n ∧ ∀ i f, L[i]? = some f → f.sl = dpS v i
theorem DpI.gr {v : Int} {W wr w' : World} {B s n : Nat} (h : DpI v W wr B s n) (g : G wr w') : DpI v W w' B s n := by
  obtain ⟨vv, L, h1, h2, h3⟩ := h
  exact ⟨vv, L, h1.gr g, h2, h3⟩
theorem dp_last {L : List Fr} {n : Nat} (h : L.length = n + 1) : ∃ M f, L = M ++ [f] ∧ M.length = n ∧ L[n]? = some f := by
  rcases List.eq_nil_or_concat L with rfl | ⟨M, f, rfl⟩
  · cases h
  · rw [List.concat_eq_append] at h ⊢
    have hm : M.length = n := by simpa using h
    exact ⟨M, f, rfl, hm, by rw [← hm]; simp⟩
theorem dp_get {v : Int} {W wr : World} {B s n : Nat} (h : DpI v W wr B s (n + 1)) (hn : n ≤ 300) (j : Int) (x : Int) (hj : 0 ≤ j) (hx : (dpS v n)[j.toNat]? = some x) : Calls Tryd.prog 12 #[.pointer (some ⟨s, 0, none⟩), .int .i64 j] wr fun e w' => e = .returned (.int .i64 x) ∧ DpI v W w' B s (n + 1) := by
  obtain ⟨vv, L, h1, h2, h3⟩ := h
  obtain ⟨M, f, rfl, hm, hf⟩ := dp_last h2
  refine (a_get h1 (by omega) j x ?_).mono ?_
  · rw [getP_app, if_neg (by omega), h3 n f hf, hx]
    rfl
  · rintro e w' ⟨rfl, h⟩
    exact ⟨rfl, vv, _, h, h2, h3⟩
theorem dp_ret {v : Int} {W wr : World} {B s n : Nat} (h : DpI v W wr B s (n + 1)) (hn : n ≤ 300) (b : Bool) (hb : decide (0 < n) = b) : Calls Tryd.prog 16 #[.pointer (some ⟨s, 0, none⟩)] wr fun e w' => e = .returned (.bool b) ∧ DpI v W w' B s n := by
  obtain ⟨vv, L, h1, h2, h3⟩ := h
  obtain ⟨M, f, rfl, hm, hf⟩ := dp_last h2
  refine (a_return h1 (by omega) b (by rw [hm]; exact hb)).mono ?_
  rintro e w' ⟨rfl, v', h⟩
  exact ⟨rfl, v', M, h, hm, fun i g hg => h3 i g (by rw [List.getElem?_append_left (List.getElem?_eq_some_iff.1 hg).1]; exact hg)⟩
theorem dp_call {v : Int} {W wr : World} {B s n : Nat} (h : DpI v W wr B s n) (h0 : 0 < n) (hn : n < 256) {fb : Nat} (hm : ModAt wr (agTwo fb) twoM) (ab : Nat) (hab : ab = wr.heap.size) :
    Calls Tryd.prog 10 #[.pointer (some ⟨s, 0, none⟩), agTwo fb, .int .i64 0, .slice (some ⟨ab, 0, none⟩) 1 1] (wr.alloc (.cells #[.int .i64 (bits .xor .i64 v (n : Int))] 2)) fun e w' => e = .returned (.int .i64 0) ∧ Hid (Calls Tryd.prog 18 #[.pointer (some ⟨s, 0, none⟩), .int .i64 1, .int .i64 (1000 + (n : Int))] w' fun e w2 => e = .returned (.tuple #[]) ∧ Hid (DpI v W w2 B s (n + 1))) := by
  obtain ⟨vv, L, h1, h2, h3⟩ := h
  refine (a_call h1 (by omega) hm _ ab hab).mono ?_
  rintro e w' ⟨rfl, v', sb, h4⟩
  refine ⟨rfl, hide ?_⟩
  refine (a_set (L' := L ++ [⟨0, 0, sb, 2, [bits .xor .i64 v (n : Int), 1000 + (n : Int)]⟩]) h4 (by simp; omega) 1 (1000 + (n : Int)) (by rw [setP_app]; rfl)).mono ?_
  rintro e w2 ⟨rfl, h5⟩
  refine ⟨rfl, hide ⟨v', _, h5, by simp [h2], fun i g hg => ?_⟩⟩
  by_cases hi : i < L.length
  · rw [List.getElem?_append_left hi] at hg
    exact h3 i g hg
  · rw [List.getElem?_append_right (by omega)] at hg
    have hi2 := (List.getElem?_eq_some_iff.1 hg).1
    simp at hi2
    have hin : i = n := by omega
    subst hin
    rw [show i - L.length = 0 by omega] at hg
    simp at hg
    subst hg
    unfold dpS
    rw [if_neg (by omega)]
theorem dp_full {v : Int} {W wr : World} {B s n : Nat} (h : DpI v W wr B s n) (hn : 256 ≤ n) {fb : Nat} (hm : ModAt wr (agTwo fb) twoM) (a : Int) (ab : Nat) :
    Calls Tryd.prog 10 #[.pointer (some ⟨s, 0, none⟩), agTwo fb, .int .i64 0, .slice (some ⟨ab, 0, none⟩) 1 1] (wr.alloc (.cells #[.int .i64 a] 2)) fun e w' => e = .returned (.int .i64 2) ∧ Hid (DpI v W w' B s n) := by
  obtain ⟨vv, L, h1, h2, h3⟩ := h
  refine (a_callfull h1 (by omega) hm a ab).mono ?_
  rintro e w' ⟨rfl, h⟩
  exact ⟨rfl, hide ⟨vv, L, h, h2, h3⟩⟩
theorem dp_depth {v : Int} {W wr : World} {B s n : Nat} (h : DpI v W wr B s n) : Calls Tryd.prog 11 #[.pointer (some ⟨s, 0, none⟩)] wr fun e w' => e = .returned (.int .i64 (n : Int)) ∧ DpI v W w' B s n := by
  obtain ⟨vv, L, h1, h2, h3⟩ := h
  refine (a_depth h1 n (by omega)).mono ?_
  rintro e w' ⟨rfl, h⟩
  exact ⟨rfl, vv, L, h, h2, h3⟩
theorem DpI.fin {v : Int} {W wr : World} {B s n : Nat} (h : DpI v W wr B s n) : G W wr := by
  obtain ⟨vv, L, h1, _⟩ := h
  exact h1.g
def Dst (x : Int) (d : Nat) : Prop := x = (d : Int)
def Dle (d : Nat) : Prop := d ≤ 255
set_option maxHeartbeats 4000000 in
theorem deep_core (N : Nat) (h1 : 1 ≤ N) (h3 : N ≤ 300) (v : Int) (W : World) (AW : Hid (Calls Tryd.prog 7 #[] W fun e w' => e = .returned (.bool true) ∧ G W w')) : Calls Tryd.prog 5 #[.int .i64 (N : Int), .int .i64 v] W fun e w' => e = .returned (.bool true) ∧ G W w' := by
  have TW := hide two_g
  have hn1 : ¬ (N : Int) < 1 := by omega
  have hn3 : ¬ (300 : Int) < (N : Int) := by omega
  replace h1 := hide h1
  replace h3 := hide h3
  go_enter Tryd.func5, Tryd.ntmps5
  go_wp2_with fail
  refine (unhide AW).mono ?_
  rintro e w1 ⟨rfl, g1⟩
  have G1 := hide g1
  clear g1 AW
  go_wp2_with fail
  refine (unhide TW _).mono ?_
  rintro e w6 ⟨fb6, rfl, m6, g6⟩
  have G6 := hide ((unhide G1).trans g6)
  replace m6 := hide m6
  clear g6 G1
  unfold agTwo
  go_wp2_with fail
  refine (a_new (unhide G6) (unhide m6) v _ rfl).mono ?_
  rintro e w7 ⟨s, v7, sb, rfl, X7, _⟩
  have K7 : Hid (DpI v W w7 (w6.heap.size + 1) s 1) := hide ⟨v7, _, X7, rfl, fun i f hf => by
    match i, hf with
    | 0, hf => cases hf; rfl⟩
  obtain ⟨B, hB⟩ : ∃ B, B = w6.heap.size + 1 := ⟨_, rfl⟩
  rw [← hB] at K7
  clear X7 m6 G6 hB
  go_wp2_with fail
  go_loopw [7, 8] (fun i _ wr => ∃ k : Nat, 1 ≤ k ∧ k ≤ N ∧ i = .int .i64 k ∧ Hid (DpI v W wr B s (min k 256))) (fun i _ _ => N - (intOf i).toNat)
  case atStart => exact ⟨1, Nat.le_refl _, unhide h1, rfl, K7⟩
  case round =>
    obtain ⟨k, hk1, hk, rfl, HW⟩ := hrel
    by_cases hlt : k < N
    · have hk3 : k ≤ 300 := by have := unhide h3; omega
      clear K7
      by_cases hf : k < 256
      · have hfi : (k : Int) < 256 := by omega
        replace hf := hide hf
        have hwk : wrap64 (1000 + (k : Int)) = 1000 + (k : Int) := by unfold wrap64; omega
        have e1 : min k 256 = k := by have := unhide hf; omega
        have e2 : min (k + 1) 256 = k + 1 := by have := unhide hf; omega
        rw [e1] at HW
        replace e2 := hide e2
        clear e1
        go_wp2_with fail
        refine (unhide TW _).mono ?_
        rintro e w8 ⟨fb8, rfl, m8, g8⟩
        have C8 := hide (dp_call ((unhide HW).gr g8) (by omega) (unhide hf) m8)
        clear g8 HW m8
        unfold agTwo at C8 ⊢
        go_wp2_with fail
        refine (unhide C8 _ rfl).mono ?_
        rintro e w9 ⟨rfl, C9⟩
        clear C8 TW
        go_wp2_with fail
        refine (unhide C9).mono ?_
        rintro e w10 ⟨rfl, K10⟩
        clear C9
        go_wp2_with fail
        go_roundw
        case rel => exact ⟨k + 1, by omega, by omega, by go_num, by rw [unhide e2]; exact K10⟩
        case measure => simp [intOf]; omega
      · have hfi : decide ((k : Int) < 256) = false := by simp; omega
        have hfn : decide (k < 256) = false := by simp; omega
        obtain ⟨q, e1⟩ : ∃ q, min k 256 = q := ⟨_, rfl⟩
        have e2 : min (k + 1) 256 = q := by omega
        have e3 : 256 ≤ q := by omega
        clear hf
        rw [e1] at HW
        replace e2 := hide e2
        replace e3 := hide e3
        clear e1 hk3
        go_wp2_with fail
        refine (unhide TW _).mono ?_
        rintro e w8 ⟨fb8, rfl, m8, g8⟩
        have C8 := hide (dp_full ((unhide HW).gr g8) (unhide e3) m8)
        clear g8 HW m8
        unfold agTwo at C8 ⊢
        go_wp2_with fail
        refine (unhide C8 _ _).mono ?_
        rintro e w9 ⟨rfl, K9⟩
        clear C8 TW
        go_wp2_with fail
        go_roundw
        case rel => exact ⟨k + 1, by omega, by omega, by go_num, by rw [unhide e2]; exact K9⟩
        case measure => simp [intOf]; omega
    · obtain rfl : k = N := by omega
      clear K7 TW hlt hn1 hn3 hk
      by_cases f1 : 256 < k
      · have fi : decide ((256 : Int) < (k : Int)) = true := by simp; omega
        have fin : decide (256 < k) = true := by simp; omega
        obtain ⟨D, hD⟩ : ∃ D, D = min k 256 := ⟨_, rfl⟩
        have hD2 : D = 256 := by omega
        rw [← hD] at HW
        obtain ⟨d, hd⟩ : ∃ d, D = d + 1 := ⟨255, by omega⟩
        have hdd : Dle d := by unfold Dle; omega
        have CD : Hid (Calls Tryd.prog 11 #[.pointer (some ⟨s, 0, none⟩)] wr fun e w' => e = .returned (.int .i64 256) ∧ Hid (DpI v W w' B s (d + 1))) := hide ((dp_depth (unhide HW)).mono (by
          rintro e w' ⟨rfl, h⟩
          rw [← hd]
          exact ⟨by rw [hD2]; rfl, hide h⟩))
        have hst : Dst 255 d := by unfold Dst; omega
        clear f1 hD hD2 hd h1 h3 hk1 HW
        go_wp2_with fail
        refine (unhide CD).mono ?_
        rintro e w12 ⟨rfl, K12⟩
        clear CD fi fin
        go_wp2_with fail
        go_loopw [10] (fun i wr => ∃ t : Nat, t ≤ d ∧ i = .int .i64 t ∧ Hid (DpI v W wr B s (t + 1))) (fun i _ => (intOf i).toNat)
        case atStart => exact ⟨d, Nat.le_refl _, by rw [← (show _ = _ from hst)], K12⟩
        case round =>
          obtain ⟨t, ht, rfl, HT⟩ := hrel
          by_cases h0 : t = 0
          · subst h0
            clear K12
            go_wp2_with fail
            refine (dp_get (unhide HT) (by omega) 0 v (by omega) rfl).mono ?_
            rintro e w13 ⟨rfl, K13⟩
            replace K13 := hide K13
            clear HT
            go_wp2_with fail
            refine (dp_get (unhide K13) (by omega) 1 0 (by omega) rfl).mono ?_
            rintro e w14 ⟨rfl, K14⟩
            replace K14 := hide K14
            clear K13
            go_wp2_with fail
            refine (dp_ret (unhide K14) (by omega) false rfl).mono ?_
            rintro e w15 ⟨rfl, K15⟩
            have G15 := hide K15.fin
            clear K14 K15
            go_wp2_with fail
            go_ret
            exact ⟨rfl, unhide G15⟩
          · have hti : (0 : Int) < (t : Int) := by omega
            have htn : 0 < t := by omega
            have ht3 : t ≤ 300 := by unfold Dle at hdd; omega
            have hw2 : wrap64 ((t : Int) - 1) = ((t - 1 : Nat) : Int) := by unfold wrap64; omega
            have hw3 : wrap64 (1000 + (t : Int)) = 1000 + (t : Int) := by unfold wrap64; omega
            have e0 : (dpS v t)[(0 : Int).toNat]? = some (bits .xor .i64 v (t : Int)) := by unfold dpS; rw [if_neg h0]; rfl
            have e1 : (dpS v t)[(1 : Int).toNat]? = some (1000 + (t : Int)) := by unfold dpS; rw [if_neg h0]; rfl
            obtain ⟨X, hX⟩ : ∃ X, X = bits .xor .i64 v (t : Int) := ⟨_, rfl⟩
            rw [← hX] at e0
            have hXe : bits .xor .i64 v (t : Int) = X := hX.symm
            obtain ⟨Y, hY⟩ : ∃ Y, Y = 1000 + (t : Int) := ⟨_, rfl⟩
            rw [← hY] at e1
            have hw4 : wrap64 (1000 + (t : Int)) = Y := by rw [hw3, hY]
            have C0 := hide (fun wr (h : DpI v W wr B s (t + 1)) => dp_get h ht3 0 X (by omega) e0)
            have C1 := hide (fun wr (h : DpI v W wr B s (t + 1)) => dp_get h ht3 1 Y (by omega) e1)
            have C2 := hide (fun wr (h : DpI v W wr B s (t + 1)) => dp_ret h ht3 true (by simpa using htn))
            clear K12 e0 e1 hX hY hw3 ht3
            go_wp2_with fail
            refine (unhide C0 _ (unhide HT)).mono ?_
            rintro e w13 ⟨rfl, K13⟩
            replace K13 := hide K13
            clear HT
            go_wp2_with fail
            refine (unhide C1 _ (unhide K13)).mono ?_
            rintro e w14 ⟨rfl, K14⟩
            replace K14 := hide K14
            clear K13
            go_wp2_with fail
            refine (unhide C2 _ (unhide K14)).mono ?_
            rintro e w15 ⟨rfl, K15⟩
            replace K15 := hide K15
            clear K14 C0 C1 C2
            go_wp2_with fail
            go_roundw
            case rel => exact ⟨t - 1, by omega, by rw [hw2], by rw [show t - 1 + 1 = t by omega]; exact K15⟩
            case measure => rw [hw2]; simp only [intOf]; omega
      · have fi : decide ((256 : Int) < (k : Int)) = false := by simp; omega
        have fin : decide (256 < k) = false := by simp; omega
        have hD : min k 256 = k := by omega
        rw [hD] at HW
        obtain ⟨d, hd⟩ : ∃ d, k = d + 1 := ⟨k - 1, by omega⟩
        have hdd : Dle d := by unfold Dle; omega
        have CD : Hid (Calls Tryd.prog 11 #[.pointer (some ⟨s, 0, none⟩)] wr fun e w' => e = .returned (.int .i64 (k : Int)) ∧ Hid (DpI v W w' B s (d + 1))) := hide ((dp_depth (unhide HW)).mono (by
          rintro e w' ⟨rfl, h⟩
          rw [← hd]
          exact ⟨rfl, hide h⟩))
        have hst : Dst ((k : Int) - 1) d := by unfold Dst; omega
        clear f1 hD hd h1 h3 hk1 HW
        go_wp2_with fail
        refine (unhide CD).mono ?_
        rintro e w12 ⟨rfl, K12⟩
        clear CD fi fin
        go_wp2_with fail
        go_loopw [10] (fun i wr => ∃ t : Nat, t ≤ d ∧ i = .int .i64 t ∧ Hid (DpI v W wr B s (t + 1))) (fun i _ => (intOf i).toNat)
        case atStart => exact ⟨d, Nat.le_refl _, by rw [← (show _ = _ from hst)], K12⟩
        case round =>
          obtain ⟨t, ht, rfl, HT⟩ := hrel
          by_cases h0 : t = 0
          · subst h0
            clear K12
            go_wp2_with fail
            refine (dp_get (unhide HT) (by omega) 0 v (by omega) rfl).mono ?_
            rintro e w13 ⟨rfl, K13⟩
            replace K13 := hide K13
            clear HT
            go_wp2_with fail
            refine (dp_get (unhide K13) (by omega) 1 0 (by omega) rfl).mono ?_
            rintro e w14 ⟨rfl, K14⟩
            replace K14 := hide K14
            clear K13
            go_wp2_with fail
            refine (dp_ret (unhide K14) (by omega) false rfl).mono ?_
            rintro e w15 ⟨rfl, K15⟩
            have G15 := hide K15.fin
            clear K14 K15
            go_wp2_with fail
            go_ret
            exact ⟨rfl, unhide G15⟩
          · have hti : (0 : Int) < (t : Int) := by omega
            have htn : 0 < t := by omega
            have ht3 : t ≤ 300 := by unfold Dle at hdd; omega
            have hw2 : wrap64 ((t : Int) - 1) = ((t - 1 : Nat) : Int) := by unfold wrap64; omega
            have hw3 : wrap64 (1000 + (t : Int)) = 1000 + (t : Int) := by unfold wrap64; omega
            have e0 : (dpS v t)[(0 : Int).toNat]? = some (bits .xor .i64 v (t : Int)) := by unfold dpS; rw [if_neg h0]; rfl
            have e1 : (dpS v t)[(1 : Int).toNat]? = some (1000 + (t : Int)) := by unfold dpS; rw [if_neg h0]; rfl
            obtain ⟨X, hX⟩ : ∃ X, X = bits .xor .i64 v (t : Int) := ⟨_, rfl⟩
            rw [← hX] at e0
            have hXe : bits .xor .i64 v (t : Int) = X := hX.symm
            obtain ⟨Y, hY⟩ : ∃ Y, Y = 1000 + (t : Int) := ⟨_, rfl⟩
            rw [← hY] at e1
            have hw4 : wrap64 (1000 + (t : Int)) = Y := by rw [hw3, hY]
            have C0 := hide (fun wr (h : DpI v W wr B s (t + 1)) => dp_get h ht3 0 X (by omega) e0)
            have C1 := hide (fun wr (h : DpI v W wr B s (t + 1)) => dp_get h ht3 1 Y (by omega) e1)
            have C2 := hide (fun wr (h : DpI v W wr B s (t + 1)) => dp_ret h ht3 true (by simpa using htn))
            clear K12 e0 e1 hX hY hw3 ht3
            go_wp2_with fail
            refine (unhide C0 _ (unhide HT)).mono ?_
            rintro e w13 ⟨rfl, K13⟩
            replace K13 := hide K13
            clear HT
            go_wp2_with fail
            refine (unhide C1 _ (unhide K13)).mono ?_
            rintro e w14 ⟨rfl, K14⟩
            replace K14 := hide K14
            clear K13
            go_wp2_with fail
            refine (unhide C2 _ (unhide K14)).mono ?_
            rintro e w15 ⟨rfl, K15⟩
            replace K15 := hide K15
            clear K14 C0 C1 C2
            go_wp2_with fail
            go_roundw
            case rel => exact ⟨t - 1, by omega, by rw [hw2], by rw [show t - 1 + 1 = t by omega]; exact K15⟩
            case measure => rw [hw2]; simp only [intOf]; omega
theorem walk_FrameDeep (a v : Int) (W : World) (hL : laidMetH Tryd.prog laid9 W) (_ : oI a) (_ : oI v) : Calls Tryd.prog 5 #[.int .i64 a, .int .i64 v] W fun e w' => e = .returned (.bool true) ∧ G W w' := by
  have AW := hide (awake13 W (rows_of_laid hL))
  clear hL
  by_cases h : 1 ≤ a ∧ a ≤ 300
  · obtain ⟨N, rfl⟩ : ∃ N : Nat, a = N := ⟨a.toNat, by omega⟩
    exact deep_core N (by omega) (by omega) v W AW
  · by_cases h1 : a < 1
    · clear h
      go_enter Tryd.func5, Tryd.ntmps5
      go_wp2_with fail
      refine (unhide AW).mono ?_
      rintro e w1 ⟨rfl, g1⟩
      have G1 := hide g1
      clear g1 AW
      go_wp2_with fail
      go_ret
      exact ⟨rfl, unhide G1⟩
    · have h3 : 300 < a := by omega
      clear h
      go_enter Tryd.func5, Tryd.ntmps5
      go_wp2_with fail
      refine (unhide AW).mono ?_
      rintro e w1 ⟨rfl, g1⟩
      have G1 := hide g1
      clear g1 AW
      go_wp2_with fail
      go_ret
      exact ⟨rfl, unhide G1⟩

set_option maxRecDepth 100000 in
theorem lifted_FrameDeep (os : Os) (started : os.Started) (H : Type) (enc : TypeId × Value → H) :
    ReturnsInHanded {} Tryd.checked os 5 .any (fun w args => (Rows.frameDeepSpec.pre enc Tryd.prog Tryd.f5 [] false w args ∧ laidMetH Tryd.prog laid9 w) ∧ sizedMet enc Tryd.prog Tryd.f5 (OpenSpec.ofChange Rows.frameDeepSpec) false w args)
      (Rows.frameDeepSpec.post enc Tryd.prog Tryd.f5 false true false false) := by
  refine returnsInHanded_of_change_and (C := Tryd.checked) (X := fun w _ => laidMetH Tryd.prog laid9 w) (fun _ _ _ hh h => h.of_heap hh) own started (by kernel_rfl) Tryd.func5
    (ChangeSpec.witness_shaped (enc := enc) (C := Tryd.checked) (os := os) (X := fun w _ => laidMetH Tryd.prog laid9 w) false (World.doorLaid Tryd.prog 400 os) #[.int .i64 0, .int .i64 0] 8 rfl (World.shaped_of_RefB (by kernel_rfl) (by kernel_rfl)) (by kernel_rfl) (by kernel_rfl) (by kernel_rfl) (door_met os _)) ?_
  intro W base args ds gs before hval0 hW _ _ hL _
  have hval : ∀ (j : Nat) t v, Tryd.f5.params[j]? = some t → args[j]? = some v → Value.okWide Tryd.prog W .any base t v := hval0
  have hW' := hW
  obtain ⟨p, q, hA0, hV, rfl, hfz, hnd⟩ := hW
  have hA : DataW.TrodAll enc Tryd.prog W 0 (fun _ => true) true Tryd.f5.params.toList args.toList ds p := hA0
  rw [Tryd.params5] at hA hval
  obtain ⟨v0, vs0, d0, ds0, p0, q0, hargs, rfl, rfl, h0, r0⟩ := trodAll_cons hA
  obtain ⟨v1, vs1, d1, ds1, p1, q1, rfl, rfl, rfl, h1, r1⟩ := trodAll_cons r0
  obtain ⟨rfl, rfl, rfl⟩ := trodAll_nil r1
  obtain rfl : args = #[v0, v1] := by cases args; simp_all
  obtain ⟨rfl, rfl⟩ := trodVars_none hV
  have k0 := h0
  have lt0 : ∀ x ∈ p0, x.block < W.heap.size := by obtain ⟨m, hm⟩ := k0; exact DataW.trod_lt m _ _ _ hm
  obtain ⟨a0, rfl, rfl, rfl, w0⟩ := open_int Tryd.underlying3 (hval 0 3 v0 rfl rfl) h0
  have k1 := h1
  have lt1 : ∀ x ∈ p1, x.block < W.heap.size := by obtain ⟨m, hm⟩ := k1; exact DataW.trod_lt m _ _ _ hm
  obtain ⟨a1, rfl, rfl, rfl, w1⟩ := open_int Tryd.underlying2 (hval 1 2 v1 rfl rfl) h1
  clear hA0 hval0
  refine (walk_FrameDeep a0 a1 W hL (oI_wf w0) (oI_wf w1)).mono fun e W' ⟨he, hg⟩ => ?_
  subst he
  exact ⟨_, rfl, _, _, _, [], _, [], hW', trodAll_mk1 (shut_bool Tryd.underlying4 _), (trodAll_cons_mk (Below.trod laidOut (by kernel_rfl) (of_decide_eq_true (by kernel_rfl)) k0 hg lt0) (trodAll_cons_mk (Below.trod laidOut (by kernel_rfl) (of_decide_eq_true (by kernel_rfl)) k1 hg lt1) trodAll_mk0)), rfl, hg.frame _, fun h => by cases h⟩

theorem row_FrameDeep : Rows.FrameDeepSaid :=
  OpenClaim.holds_of_wide 5 Tryd.f5 rfl rfl rfl rfl rfl rfl rfl ⟨rfl, rfl, rfl, rfl, rfl⟩ rfl rfl rfl rfl rfl (by kernel_rfl) Tryd.func5 (by kernel_rfl)
    (of_decide_eq_true (by kernel_rfl)) (by unfold Func.isWrapper; first | (rw [if_pos (by decide +kernel)]; kernel_rfl) | (rw [if_neg (by decide +kernel)]; exact ⟨rfl, rfl⟩))
    (fun os started H enc _ => lifted_FrameDeep os started H enc)

/-- THE STATEMENT. -/
theorem card_FrameDeep : Rows.FrameDeepCardSaid :=
  Claim7.holds_tied_plain_at .later [] [.data] true (true, "8ddf49a22e35645a40b29dea95ad2e9610f848324a67b63f58e7a1b6c512da97") false
    row_FrameDeep (fun _ h => by cases h) (by kernel_rfl) (fun _ h => by cases h) frameDeep_row_tie rfl ⟨rfl, rfl⟩ (by kernel_rfl) rfl
    (fun f fn hf hfn => by
      obtain rfl : f = 5 := Option.some.inj ((show Tryd.prog.funcNamed "gantline/gantlinelaw13.FrameDeep" = some 5 by kernel_rfl).symm.trans hf) |>.symm
      obtain rfl : fn = Tryd.f5 := (Option.some.inj (Tryd.func5.symm.trans hfn)).symm
      exact ⟨by kernel_rfl, fun j t ht => by
        rw [Tryd.params5] at ht
        have hm : t ∈ [3, 2] := by simpa using Array.mem_of_getElem? ht
        have hall : ([3, 2].all fun u => !Tryd.prog.wantsStandIn u) = true := by kernel_rfl
        exact (show Tryd.prog.wantsStandIn t = false by simpa using List.all_eq_true.1 hall t hm)⟩)
    (by kernel_rfl)
#print axioms card_FrameDeep
end Go.Proofs.YtiaogffnkblmkaaDoor
