/- The document's own writing: many, ints, bools (gantlineref9). -/
import Derived.Test.YtdekhnfncecacaaDoorCodeFrame
namespace Go.Proofs.YtdekhnfncecacaaDoor
set_option maxRecDepth 100000
open Go.RowKit Go.Maps Go.ChangeShapes Go.WideShapes Go.ChangeAt Go.Deep

/-- These bytes lie there. -/
def BB (w : World) (v : Value) (zs : List Int) : Prop := ∃ ao n c, v = .slice ao n c ∧ n ≤ c ∧ (ao = none → c = 0) ∧ Row w ao n zs
theorem BB.g {w w' : World} {v : Value} {zs : List Int} (h : BB w v zs) (g : G w w') : BB w' v zs := by
  obtain ⟨ao, n, c, e, h0, h1, h2⟩ := h
  exact ⟨ao, n, c, e, h0, h1, h2.later g⟩
theorem BB.byt {w : World} {v : Value} {zs : List Int} (h : BB w v zs) : Byt zs := by
  obtain ⟨ao, n, c, e, h0, h1, h2⟩ := h
  exact h2.2.1
/-- What a writing call gives. -/
def BTo (x : World) (zs : List Int) (e : Ending) (w' : World) : Prop := ∃ v', e = .returned v' ∧ BB w' v' zs ∧ G x w'
theorem rzig_all (v : Int) (hv : oI v) : Gives 36 #[.int .i64 v] (.int .u64 (zg v : Int)) := by
  unfold zg zigI
  by_cases h : 0 ≤ v
  · rw [if_pos h]
    have e : (((2 * v).toNat : Nat) : Int) = 2 * v := by omega
    rw [e]
    obtain ⟨n, rfl⟩ := Int.eq_ofNat_of_zero_le h
    exact rzig_pos n hv.2
  · rw [if_neg h]
    have e : (((-2 * v - 1).toNat : Nat) : Int) = -2 * v - 1 := by omega
    rw [e]
    exact rzig_neg v hv.1 (by omega)
theorem rp (x : World) (v : Value) (zs : List Int) (u : Nat) (h : BB x v zs) (hu : oU u) (hn : zs.length ≤ 10000000) :
    Calls Tryd.prog 34 #[v, .int .u64 (u : Int)] x (BTo x (zs ++ eU u)) := by
  have hby := h.byt
  obtain ⟨ao, n, c, rfl, h0, h1, h2⟩ := h
  have hln := h2.1
  refine (rput_any ao n c u zs x h2 h1 hu (by omega)).mono ?_
  rintro e w' ⟨v', rfl, hne, hown, hg⟩
  obtain ⟨g, cap, rfl, _, hz, hle, hc⟩ := own_form hown hne
  exact ⟨_, rfl, ⟨_, _, _, rfl, hle, (fun e => by cases e), hz, hby.app (cU.byt u hu), Or.inr ⟨g, 0, rfl, fun i hi => by rw [Nat.zero_add]; exact hc i hi⟩⟩, hg⟩
set_option maxHeartbeats 400000 in
theorem rmany (x : World) (v : Value) (zs : List Int) (u : Nat) (h : BB x v zs) (hu : u ≤ 10000000) (hn : zs.length ≤ 10000000) :
    Calls Tryd.prog 32 #[v, .int .i64 (u : Int)] x (BTo x (zs ++ eU u)) := by
  have C := hide (rp x v zs u h (by unfold oU; omega) hn)
  clear h hn
  go_enter Tryd.func32, Tryd.ntmps32
  go_wp2_with fail
  refine (unhide C).mono ?_
  rintro e w' ⟨v', rfl, F⟩
  replace F := hide F
  go_wp2_with fail
  refine bodyPost_ret (by simp [results, Tryd.results32, go_sem]; try rfl) rfl ?_
  exact ⟨v', rfl, unhide F⟩

set_option maxHeartbeats 1000000 in
theorem rints (x : World) (v : Value) (zs : List Int) (ao : Option Addr) (n c : Nat) (l : List Int) (hb : BB x v zs) (hr : RowAt elI x ao n c l) (hv : ∀ a ∈ l, oI a) (hn : zs.length + (l.flatMap eI).length ≤ 10000000) :
    Calls Tryd.prog 33 #[v, .slice ao n c] x (BTo x (zs ++ l.flatMap eI)) := by
  have hln := hr.1
  have hmx : n ≤ 10000000 := by have := flat_len cI l hv; omega
  have RD : Hid (∀ (k : Nat) (wr : World) (vb : Value), k < n → BB wr vb (zs ++ (l.take k).flatMap eI) ∧ G x wr → ∃ (b off : Nat) (a : Int), ao = some ⟨b, off, none⟩ ∧ wr.cell? ⟨b, off + k, none⟩ = some (.int .i64 a) ∧
      Gives 36 #[.int .i64 a] (.int .u64 (zg a : Int)) ∧
      Calls Tryd.prog 34 #[vb, .int .u64 (zg a : Int)] wr fun e w' => ∃ v', e = .returned v' ∧ BB w' v' (zs ++ (l.take (k + 1)).flatMap eI) ∧ G x w') := hide fun k wr vb hk HW => by
    rcases hr.2.2.2 with hz | ⟨b, off, e, hbl, hc⟩
    · omega
    obtain ⟨a, ha⟩ : ∃ a, l[k]? = some a := ⟨l[k]'(by omega), List.getElem?_eq_getElem _⟩
    obtain ⟨cs, ecs, hcs⟩ := hc k a ha
    have ecs : cs = [.int .i64 a] := ecs
    subst ecs
    have hl := flat_take_len eI l k
    have hoa := hv a (List.mem_of_getElem? ha)
    refine ⟨b, off, a, e, (by have h4 := hcs 0 _ rfl; change x.cell? ⟨b, off + k * 1, none⟩ = _ at h4; rw [Nat.mul_one] at h4; exact HW.2.cell h4), rzig_all a hoa, ?_⟩
    refine (rp wr vb _ (zg a) HW.1 (oU_zg hoa) (by rw [List.length_append]; omega)).mono ?_
    rintro e' w2 ⟨v', rfl, F, g⟩
    refine ⟨v', rfl, ?_, HW.2.trans g⟩
    rw [flat_take eI l k a ha, ← List.append_assoc]
    exact F
  have ST : Hid (BB x v (zs ++ (l.take 0).flatMap eI) ∧ G x x) := hide ⟨by simpa using hb, G.refl x⟩
  have FI : Hid (zs ++ (l.take n).flatMap eI = zs ++ l.flatMap eI) := hide (by rw [List.take_of_length_le (by omega)])
  clear hb hr hv hn hln
  go_enter Tryd.func33, Tryd.ntmps33
  go_wp2_with fail
  go_loopw [0, 5] (fun b i wr => ∃ k : Nat, k ≤ n ∧ i = .int .i64 k ∧ Hid (BB wr b (zs ++ (l.take k).flatMap eI) ∧ G x wr)) (fun _ i _ => n - (intOf i).toNat)
  case atStart => exact ⟨0, Nat.zero_le _, rfl, ST⟩
  case round =>
    obtain ⟨k, hk, rfl, HW⟩ := hrel
    by_cases hlt : k < n
    · obtain ⟨b, off, a, rfl, hc0, Z, C⟩ := unhide RD k wr _ hlt (unhide HW)
      replace C := hide C
      replace Z := hide (Z wr)
      clear HW
      go_wp2_with fail
      refine (unhide Z).mono ?_
      rintro e w2 ⟨rfl, rfl⟩
      clear Z
      go_wp2_with fail
      refine (unhide C).mono ?_
      rintro e w2 ⟨v2, rfl, F⟩
      replace F := hide F
      clear C
      go_wp2_with fail
      go_roundw
      case rel => exact ⟨k + 1, by omega, by go_num, F⟩
      case measure => simp [intOf]; omega
    · obtain rfl : k = n := by omega
      rw [unhide FI] at HW
      go_wp2_with fail
      refine bodyPost_ret (by simp [results, Tryd.results33, go_sem]; try rfl) rfl ?_
      exact ⟨_, rfl, unhide HW⟩

set_option maxHeartbeats 1000000 in
theorem rbools (x : World) (v : Value) (zs : List Int) (ao : Option Addr) (n c : Nat) (l : List Bool) (hb : BB x v zs) (hr : RowAt elB x ao n c l) (hn : zs.length + (eL eB l).length ≤ 10000000) :
    Calls Tryd.prog 35 #[v, .slice ao n c] x (BTo x (zs ++ eL eB l)) := by
  have hln := hr.1
  have hel : (eL eB l).length = (eU n).length + (l.flatMap eB).length := by unfold eL; rw [List.length_append, hln]
  have hmx : n ≤ 10000000 := by have := flat_len cB l (fun _ _ => trivial); omega
  have N := hide (rmany x v zs n hb hmx (by omega))
  have RD : Hid (∀ (k : Nat) (wr : World) (vb : Value), k < n → BB wr vb (zs ++ (eU n ++ (l.take k).flatMap eB)) ∧ G x wr → ∃ (b off : Nat) (a : Bool), ao = some ⟨b, off, none⟩ ∧ wr.cell? ⟨b, off + k, none⟩ = some (.bool a) ∧
      Calls Tryd.prog 34 #[vb, .int .u64 (nB a : Int)] wr fun e w' => ∃ v', e = .returned v' ∧ BB w' v' (zs ++ (eU n ++ (l.take (k + 1)).flatMap eB)) ∧ G x w') := hide fun k wr vb hk HW => by
    rcases hr.2.2.2 with hz | ⟨b, off, e, hbl, hc⟩
    · omega
    obtain ⟨a, ha⟩ : ∃ a, l[k]? = some a := ⟨l[k]'(by omega), List.getElem?_eq_getElem _⟩
    obtain ⟨cs, ecs, hcs⟩ := hc k a ha
    have ecs : cs = [.bool a] := ecs
    subst ecs
    have hl := flat_take_len eB l k
    refine ⟨b, off, a, e, (by have h4 := hcs 0 _ rfl; change x.cell? ⟨b, off + k * 1, none⟩ = _ at h4; rw [Nat.mul_one] at h4; exact HW.2.cell h4), ?_⟩
    refine (rp wr vb _ (nB a) HW.1 (by unfold oU nB; split <;> omega) (by rw [List.length_append, List.length_append]; omega)).mono ?_
    rintro e' w2 ⟨v', rfl, F, g⟩
    refine ⟨v', rfl, ?_, HW.2.trans g⟩
    rw [flat_take eB l k a ha, ← List.append_assoc, ← List.append_assoc, List.append_assoc zs]
    exact F
  have ST : Hid (∀ w1 v1, BB w1 v1 (zs ++ eU n) → BB w1 v1 (zs ++ (eU n ++ (l.take 0).flatMap eB))) := hide fun w1 v1 h => by simpa using h
  have FI : Hid (zs ++ (eU n ++ (l.take n).flatMap eB) = zs ++ eL eB l) := hide (by unfold eL; rw [List.take_of_length_le (by omega), hln])
  clear hb hr hn hln hel
  go_enter Tryd.func35, Tryd.ntmps35
  go_wp2_with fail
  refine (unhide N).mono ?_
  rintro e w1 ⟨v1, rfl, F1, g1⟩
  have S1 := hide (⟨unhide ST _ _ F1, g1⟩ : _ ∧ _)
  clear N F1 g1 ST
  go_wp2_with fail
  go_loopw [0, 5] (fun b i wr => ∃ k : Nat, k ≤ n ∧ i = .int .i64 k ∧ Hid (BB wr b (zs ++ (eU n ++ (l.take k).flatMap eB)) ∧ G x wr)) (fun _ i _ => n - (intOf i).toNat)
  case atStart => exact ⟨0, Nat.zero_le _, rfl, S1⟩
  case round =>
    obtain ⟨k, hk, rfl, HW⟩ := hrel
    by_cases hlt : k < n
    · obtain ⟨b, off, a, rfl, hc0, C⟩ := unhide RD k wr _ hlt (unhide HW)
      cases a with
      | true =>
        have C : Hid (Calls Tryd.prog 34 #[_, .int .u64 1] wr _) := hide C
        clear HW
        go_wp2_with fail
        refine (unhide C).mono ?_
        rintro e w2 ⟨v2, rfl, F⟩
        replace F := hide F
        clear C
        go_wp2_with fail
        go_roundw
        case rel => exact ⟨k + 1, by omega, by go_num, F⟩
        case measure => simp [intOf]; omega
      | false =>
        have C : Hid (Calls Tryd.prog 34 #[_, .int .u64 0] wr _) := hide C
        clear HW
        go_wp2_with fail
        refine (unhide C).mono ?_
        rintro e w2 ⟨v2, rfl, F⟩
        replace F := hide F
        clear C
        go_wp2_with fail
        go_roundw
        case rel => exact ⟨k + 1, by omega, by go_num, F⟩
        case measure => simp [intOf]; omega
    · obtain rfl : k = n := by omega
      rw [unhide FI] at HW
      go_wp2_with fail
      refine bodyPost_ret (by simp [results, Tryd.results35, go_sem]; try rfl) rfl ?_
      exact ⟨_, rfl, unhide HW⟩
end Go.Proofs.YtdekhnfncecacaaDoor
