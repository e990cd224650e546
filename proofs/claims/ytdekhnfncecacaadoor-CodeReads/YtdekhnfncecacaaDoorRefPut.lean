/- The contract of the document's own Put (gantlineref1.Put); 'append' of any bytes onto a row of the call's own. -/
import Derived.Test.YtdekhnfncecacaaDoorTakeLaw
import Derived.Laws.BytesArg
import Derived.Laws.AppendOwnNone
namespace Go.Proofs.YtdekhnfncecacaaDoor
set_option maxRecDepth 100000
open Go.RowKit

/-- 'append(v, x...)', v a row of the call's own, x any bytes, nil too. -/
theorem wpl_append_row {w : World} {ops : Array Oper} {rest : List Oper} {o : Oper} {a : Act} {Q : Exit → Act → World → Prop} (hgd : o.guard = none) (s x : Operand)
    (ho : o.op = .call { callee := .builtin .append, args := #[s, x], argTypes := #[31, 31] })
    (base : Nat) (v : Value) (n : Nat) (xs : List Value) (hs : a.eval s = v) (hown : w.ownsRow base 5 1 v n xs) (ao : Option Addr) (m c : Nat) (ms : List Int) (hx : a.eval x = .slice ao m c)
    (hnil : ao = none → c = 0) (hrow : Row w ao m ms) (hnm : n + m ≤ 30000000) (hbase : base ≤ w.heap.size)
    (h : ∀ v' w', w'.ownsRow base 5 1 v' (n + m) (xs ++ ms.map (Value.int .u8)) → w.grownBy w' v.ownBlock → (v ≠ .slice none 0 0 → v' ≠ .slice none 0 0) → wpList Tryd.prog ops Q rest (a.put o.dst v') w') :
    wpList Tryd.prog ops Q (o :: rest) a w := by
  obtain ⟨i0, hi, hz0, hz1, hz2⟩ := info_parts u8info
  cases ao with
  | none =>
    have hm : m = 0 := by
      rcases hrow.2.2 with h | ⟨b, off, e, _⟩
      · exact h
      · cases e
    subst hm
    have hms : ms = [] := List.eq_nil_of_length_eq_zero hrow.1
    subst hms
    have hc0 := hnil rfl
    subst hc0
    refine wpList_append_own_none hgd s x 31 ho base 5 i0 1 Tryd.underlying31 hi v n xs hs hown hx ?_
    exact h v w (by simpa using hown) (World.grownBy.refl _ _) (fun e => e)
  | some ad =>
    have hsrc := hrow.src
    refine wpList_append_own w hgd s x 31 ho base 5 i0 (.int .u8 0) 1 1 Tryd.underlying31 hi hz0 hz1 hz2 rfl (by decide) v n xs hs hown ad m c (ms.map (Value.int .u8)) hx (by simp [hrow.1]) ?_ (ints_oneCell _ _) (by unfold maxLen; omega) (by omega) hbase ?_
    · intro j u hj
      have hm : 0 < m := by
        rcases Nat.eq_zero_or_pos m with h0 | h0
        · have : ms = [] := List.eq_nil_of_length_eq_zero (by rw [hrow.1, h0])
          simp [this] at hj
        · exact h0
      obtain ⟨ad', e, hc⟩ := hsrc.2 hm
      cases e
      exact hc j u hj
    · intro v' w' h1 h2 h3
      exact h v' w' h1 h2 (fun hv e => hv (h3.1 e).1)

theorem own_empty (w : World) (B : Nat) (hB : B ≤ w.heap.size) : (w.alloc (.cells #[] 5)).ownsRow B 5 1 (.slice (some ⟨w.heap.size, 0, none⟩) 0 0) 0 [] :=
  ⟨rfl, Or.inr ⟨w.heap.size, 0, #[], rfl, hB, heap_alloc_new w _, Nat.le_refl _, Nat.zero_le _, rfl, rfl⟩⟩

theorem own_form {w : World} {B n : Nat} {v : Value} {zs : List Int} (h : w.ownsRow B 5 1 v n (zs.map (Value.int .u8))) (hv : v ≠ .slice none 0 0) :
    ∃ g cap, v = .slice (some ⟨g, 0, none⟩) n cap ∧ B ≤ g ∧ zs.length = n ∧ n ≤ cap ∧ ∀ i, i < n → w.cell? ⟨g, i, none⟩ = some (.int .u8 (zs.getD i 0)) := by
  obtain ⟨hl, h⟩ := h
  have hz : zs.length = n := by simpa using hl
  rcases h with ⟨e, _⟩ | ⟨g, cap, cur, e, hB, hh, hle, _, _, ht⟩
  · exact absurd e hv
  · refine ⟨g, cap, e, hB, hz, hle, fun i hi => ?_⟩
    have e2 : cur.toList[i]? = some (Value.int .u8 (zs.getD i 0)) := by
      have := congrArg (·[i]?) ht
      simp only [Nat.mul_one, List.getElem?_take, hi, if_true, List.getElem?_map] at this
      rw [this, List.getElem?_eq_getElem (by omega)]
      simp [List.getD, List.getElem?_eq_getElem (show i < zs.length by omega)]
    simp [World.cell?, hh]
    simpa using e2

theorem own_block {w : World} {B n : Nat} {v : Value} {xs : List Value} (h : w.ownsRow B 5 1 v n xs) : ∀ q, v.ownBlock = some q → B ≤ q := by
  intro q hq
  rcases h.2 with ⟨e, _⟩ | ⟨g, cap, cur, e, hB, _⟩
  · subst e; simp [Value.ownBlock] at hq
  · subst e; simp [Value.ownBlock] at hq; omega

/-- What holds at each round's head of gantlineref1.Put. -/
def RPutAt (B n u : Nat) (zs : List Int) (k uu : Nat) (v : Value) (wr : World) : Prop :=
  ∃ pre : List Int, pre.length = k ∧ pre ++ encF (9 - k) uu = encF 9 u ∧ wr.ownsRow B 5 1 v (n + k) ((zs ++ pre).map (Value.int .u8))

/-- One byte, in the block that was laid for it. -/
theorem one_row (w : World) (x : Int) (h0 : 0 ≤ x) (h1 : x ≤ 255) : Row (w.alloc (.cells #[.int .u8 x] 5)) (some ⟨w.heap.size, 0, none⟩) 1 [x] := by
  refine ⟨rfl, by simp; omega, Or.inr ⟨w.heap.size, 0, rfl, fun i hi => ?_⟩⟩
  obtain rfl : i = 0 := by omega
  simp [go_sem]

set_option maxHeartbeats 400000 in
set_option maxRecDepth 100000 in
theorem rput_any (ao : Option Addr) (n c u : Nat) (zs : List Int) (w : World) (hs : Row w ao n zs) (hnil : ao = none → c = 0) (hu : u < 18446744073709551616) (hn : n ≤ 10000000) :
    Calls Tryd.prog 34 #[.slice ao n c, .int .u64 (u : Int)] w fun e w' => ∃ v, e = .returned v ∧ v ≠ .slice none 0 0 ∧ w'.ownsRow w.heap.size 5 1 v (n + (encF 9 u).length) ((zs ++ encF 9 u).map (Value.int .u8)) ∧ Below w.heap.size w w' := by
  have HS := hide hs
  have HN := hide hnil
  clear hs hnil
  go_enter Tryd.func34, Tryd.ntmps34
  go_wp2_with (at_builtin; refine wpl_append_row rfl (.tmp 6) (.tmp 7) rfl w.heap.size _ 0 [] rfl (own_empty w w.heap.size (Nat.le_refl _)) ao n c zs rfl (unhide HN) ((unhide HS).later ((Below.refl _ _).alloc (Nat.le_refl _) _)) (by omega) (by simp) ?_)
  intro v w2 hown hgrow hv
  have HB2 : Hid (Below w.heap.size w w2) := Below.grown ((Below.refl _ _).alloc (Nat.le_refl _) _) hgrow (by simp) (fun q hq => by simp [Value.ownBlock] at hq; omega)
  have HO : Hid (w2.ownsRow w.heap.size 5 1 v (n + 0) ((zs ++ []).map (Value.int .u8))) := hide (by simpa using hown)
  clear hown hgrow HS HN hv
  go_wp2_with fail
  go_loopw [1, 5] (fun uv out wr => ∃ k uu : Nat, k ≤ 9 ∧ Hid (uu < 2 * 128 ^ (9 - k)) ∧ uu < 18446744073709551616 ∧ uv = .int .u64 uu ∧ Hid (RPutAt w.heap.size n u zs k uu out wr) ∧ Hid (Below w.heap.size w wr)) (fun uv _ _ => (intOf uv).toNat)
  case atStart => exact ⟨0, u, by omega, hide (by simpa using hu), hu, rfl, ⟨[], rfl, rfl, unhide HO⟩, HB2⟩
  case round =>
    obtain ⟨k, uu, hk, HLIM, huu, rfl, HP, HB⟩ := hrel
    clear HO HB2
    obtain ⟨pre, hpre, henc, hown⟩ := unhide HP
    have HPRE := hide hpre
    have HENC := hide henc
    have hBs : w.heap.size ≤ wr.heap.size := (unhide HB).size
    have HBL := hide (own_block hown)
    clear hpre henc HP
    by_cases hlt : uu < 128
    · clear HLIM
      go_wp2_with (at_builtin; refine wpl_append_row rfl (.tmp 20) (.tmp 23) rfl w.heap.size u5 (n + k) ((zs ++ pre).map (Value.int .u8)) rfl (hown.alloc _) (some ⟨wr.heap.size, 0, none⟩) 1 1 [(uu : Int)] rfl (fun e => by cases e) (one_row wr (uu : Int) (by omega) (by omega)) (by omega) (by simp; omega) ?_)
      intro v4 w4 hown4 hgrow hv4
      have HE : Hid (w4.ownsRow w.heap.size 5 1 v4 (n + (encF 9 u).length) ((zs ++ encF 9 u).map (Value.int .u8)) ∧ Below w.heap.size w w4 ∧ v4 ≠ .slice none 0 0) := by
        have he : pre ++ [(uu : Int)] = encF 9 u := by rw [← unhide HENC, encF_stop _ uu hlt]
        refine ⟨?_, Below.grown ((unhide HB).alloc hBs _) hgrow (by simp; omega) (unhide HBL), ?_⟩
        · have hl : n + (encF 9 u).length = n + k + 1 := by rw [← he]; simp [unhide HPRE]; omega
          rw [hl, ← he]
          simpa using hown4
        · intro e
          rw [e] at hown4
          rcases hown4.2 with ⟨_, h0⟩ | ⟨_, _, _, h0, _⟩
          · omega
          · cases h0
      clear hown4 hgrow hown hv4 HBL
      go_wp2_with fail
      go_ret
      exact ⟨_, rfl, (unhide HE).2.2, (unhide HE).1, (unhide HE).2.1⟩
    · have st := lim_step hk (unhide HLIM) hlt
      have hk8 := st.1
      have HLIM2 := hide st.2
      clear st HLIM
      obtain ⟨x, hx⟩ : ∃ x, x = uu % 128 + 128 := ⟨_, rfl⟩
      have ex : (uu : Int) % 128 + 128 = (x : Int) := by omega
      have hx2 : (x : Int) ≤ 255 := by omega
      have HX := hide hx
      clear hx
      go_wp2_with (at_builtin; refine wpl_append_row rfl (.tmp 11) (.tmp 16) rfl w.heap.size u5 (n + k) ((zs ++ pre).map (Value.int .u8)) rfl (hown.alloc _) (some ⟨wr.heap.size, 0, none⟩) 1 1 [(x : Int)] rfl (fun e => by cases e) (one_row wr (x : Int) (by omega) (by omega)) (by omega) (by simp; omega) ?_)
      intro v4 w4 hown4 hgrow hv4
      have HP4 : Hid (RPutAt w.heap.size n u zs (k + 1) (uu / 128) v4 w4) := by
        refine ⟨pre ++ [(x : Int)], by simp [unhide HPRE], ?_, ?_⟩
        · rw [← unhide HENC, show 9 - k = (9 - (k + 1)) + 1 by omega, encF_more _ uu hlt, unhide HX]; simp
        · rw [← Nat.add_assoc]; simpa using hown4
      have HB4 : Hid (Below w.heap.size w w4) := Below.grown ((unhide HB).alloc hBs _) hgrow (by simp; omega) (unhide HBL)
      clear hown4 hgrow hown ex hv4 HBL
      go_wp2_with fail
      go_roundw
      case rel => exact ⟨k + 1, uu / 128, by omega, HLIM2, by omega, by go_num, HP4, HB4⟩
      case measure => simp [intOf]; omega
end Go.Proofs.YtdekhnfncecacaaDoor
