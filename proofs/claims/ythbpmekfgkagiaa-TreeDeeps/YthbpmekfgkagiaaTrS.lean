/- Package tree: trees of a few kinds in memory: Show, Size, Deep. -/
import Derived.Test.YthbpmekfgkagiaaTrN
namespace Go.Proofs.Ythbpmekfgkagiaa
set_option maxRecDepth 100000
open Go.RowKit Go.Maps Go.ChangeShapes Go.WideShapes Go.ChangeAt Go.Deep

inductive T1 where
  | leaf (k x : ByteArray) (a : Int)
  | one (x : ByteArray) (a : Int) (t : T1)
  | two (x : ByteArray) (a : Int) (t u : T1)
def T1.k : T1 → ByteArray
  | .leaf k _ _ => k
  | .one _ _ _ => kUn
  | .two _ _ _ _ => kBin
def T1.x : T1 → ByteArray
  | .leaf _ x _ => x
  | .one x _ _ => x
  | .two x _ _ _ => x
def T1.a : T1 → Int
  | .leaf _ _ a => a
  | .one _ a _ => a
  | .two _ a _ _ => a
def T1.ok : T1 → Prop
  | .leaf k _ _ => k = kNum ∨ k = kEmp ∨ k = kProg ∨ k = kBin
  | .one _ _ t => (t.k = kNum ∨ t.k = kUn ∨ t.k = kBin) ∧ t.ok
  | .two _ _ t u => ((t.k = kNum ∨ t.k = kUn ∨ t.k = kBin) ∧ t.ok) ∧ ((u.k = kNum ∨ u.k = kUn ∨ u.k = kBin) ∧ u.ok)
/-- A tree lies below B; kv: its kids. -/
def TAt (w : World) (B : Nat) : T1 → Value → Prop
  | .leaf _ _ _, kv => ∃ ao c, kv = .slice ao 0 c
  | .one _ _ t, kv => ∃ g c kv1, kv = .slice (some ⟨g, 0, none⟩) 1 c ∧ g < B ∧ (∀ i u, (ndL t.k t.x t.a kv1)[i]? = some u → w.cell? ⟨g, i, none⟩ = some u) ∧ TAt w B t kv1
  | .two _ _ t u, kv => ∃ g c kv1 kv2, kv = .slice (some ⟨g, 0, none⟩) 2 c ∧ g < B ∧ (∀ i u', (ndL t.k t.x t.a kv1)[i]? = some u' → w.cell? ⟨g, i, none⟩ = some u') ∧ (∀ i u', (ndL u.k u.x u.a kv2)[i]? = some u' → w.cell? ⟨g, 4 + i, none⟩ = some u') ∧ TAt w B t kv1 ∧ TAt w B u kv2
theorem TAt.keep {w y : World} {B : Nat} (h : LoK B w y) : ∀ (t : T1) (kv : Value), TAt w B t kv → TAt y B t kv
  | .leaf _ _ _, _, q => q
  | .one _ _ t, _, ⟨g, c, kv1, e, hg, hc, ht⟩ => ⟨g, c, kv1, e, hg, fun i u hu => (World.cell?_of_block (a := ⟨g, i, none⟩) (h g hg)).trans (hc i u hu), TAt.keep h t kv1 ht⟩
  | .two _ _ t u, _, ⟨g, c, kv1, kv2, e, hg, hc, hd, ht, hu⟩ => ⟨g, c, kv1, kv2, e, hg, fun i q hq => (World.cell?_of_block (a := ⟨g, i, none⟩) (h g hg)).trans (hc i q hq), fun i q hq => (World.cell?_of_block (a := ⟨g, 4 + i, none⟩) (h g hg)).trans (hd i q hq), TAt.keep h t kv1 ht, TAt.keep h u kv2 hu⟩
theorem TAt.mono {w : World} {B B' : Nat} (h : B ≤ B') : ∀ (t : T1) (kv : Value), TAt w B t kv → TAt w B' t kv
  | .leaf _ _ _, _, q => q
  | .one _ _ t, _, ⟨g, c, kv1, e, hg, hc, ht⟩ => ⟨g, c, kv1, e, Nat.lt_of_lt_of_le hg h, hc, TAt.mono h t kv1 ht⟩
  | .two _ _ t u, _, ⟨g, c, kv1, kv2, e, hg, hc, hd, ht, hu⟩ => ⟨g, c, kv1, kv2, e, Nat.lt_of_lt_of_le hg h, hc, hd, TAt.mono h t kv1 ht, TAt.mono h u kv2 hu⟩
theorem TAt.sl {w : World} {B : Nat} : ∀ (t : T1) (kv : Value), TAt w B t kv → ∃ ao n c, kv = .slice ao n c
  | .leaf _ _ _, _, ⟨ao, c, e⟩ => ⟨ao, 0, c, e⟩
  | .one _ _ _, _, ⟨_, c, _, e, _⟩ => ⟨_, 1, c, e⟩
  | .two _ _ _ _, _, ⟨_, c, _, _, e, _⟩ => ⟨_, 2, c, e⟩
def lpB : List UInt8 := [40]
/-- What is shown. -/
def shP : Nat → T1 → List UInt8
  | n, .leaf k x _ => if 199 < n then [] else if k = kNum then x.data.toList else []
  | n, .one x _ t => if 199 < n then [] else [40] ++ (x.data.toList ++ ([32] ++ (shP (n + 1) t ++ [41])))
  | n, .two x _ t u => if 199 < n then [] else [40] ++ (shP (n + 1) t ++ ([32] ++ (x.data.toList ++ ([32] ++ (shP (n + 1) u ++ [41])))))
theorem fillP_num (x : List UInt8) (s : Nat → List UInt8) (sm : List UInt8) : fillP x s sm (ByteArray.mk #[36]).data.toList = x := by
  show pieceP x s sm 36 ++ [] = x
  rw [List.append_nil]; rfl
theorem fillP_prog (x : List UInt8) (s : Nat → List UInt8) (sm : List UInt8) : fillP x s sm (ByteArray.mk #[42]).data.toList = sm := by
  show pieceP x s sm 42 ++ [] = sm
  rw [List.append_nil]; rfl
theorem fillP_un (x : List UInt8) (s : Nat → List UInt8) (sm : List UInt8) : fillP x s sm (ByteArray.mk #[40, 36, 32, 48, 41]).data.toList = [40] ++ (x ++ ([32] ++ (s 0 ++ [41]))) := rfl
theorem fillP_bin (x : List UInt8) (s : Nat → List UInt8) (sm : List UInt8) : fillP x s sm (ByteArray.mk #[40, 48, 32, 36, 32, 49, 41]).data.toList = [40] ++ (s 0 ++ ([32] ++ (x ++ ([32] ++ (s 1 ++ [41]))))) := rfl
/-- A node is written. -/
theorem node_any : ∀ (t : T1) (n : Nat) (w : World) (B b : Nat) (v : Value) (bs : List Value) (kv : Value), t.ok → n ≤ 1000 → TAt w B t kv → B ≤ b → (∀ q, v.ownBlock = some q → B ≤ q) → B ≤ w.heap.size → Bd b v bs w → bs.length + (shP n t).length ≤ 140737488355328 →
    Calls Try.prog 15 #[.agg #[.pointer (some ⟨b, 0, none⟩), .int .i64 (n : Int)], .agg (ndL t.k t.x t.a kv)] w (wpost b v bs (shP n t) w)
  | .leaf k x a, n, w, B, b, v, bs, kv, ok, hn, ht, hB, hv, hBw, hb, hlen => by
    obtain ⟨ao, c, rfl⟩ := ht
    by_cases h : 199 < n
    · rw [show shP n (.leaf k x a) = [] from if_pos h]
      exact node_no w b v bs n k x a ao 0 c hb (Or.inl (by omega))
    · have e0 : shP n (.leaf k x a) = if k = kNum then x.data.toList else [] := if_neg h
      rw [e0] at hlen ⊢
      rcases ok with rfl | rfl | rfl | rfl
      · rw [if_pos rfl] at hlen ⊢
        refine node_of w b v bs n kNum x a ao 0 c ⟨#[36]⟩ _ hb (by omega) (fun y _ => fits_num y x a ao c) (fun y _ => pat_num y x a _ ⟨_, _, _, rfl⟩) (fun y g => ?_)
        have H := fill_any y B b v bs n kNum x a ao 0 c ⟨#[36]⟩ (fun _ => []) [] (by omega) (by omega) (hb.g g) hB hv (Nat.le_trans hBw g.size) (by rw [fillP_num]; exact hlen) (by decide) (fun j hj hm => by
          have hm : UInt8.ofNat (48 + j) ∈ [36] := hm
          have : j = 0 ∨ j = 1 ∨ j = 2 := by omega
          rcases this with rfl | rfl | rfl <;> simp at hm) (fun hm => by
          have hm : (42 : UInt8) ∈ [36] := hm
          simp at hm)
        rw [fillP_num] at H
        exact H
      · rw [if_neg (by decide)]
        exact node_no w b v bs n kEmp x a ao 0 c hb (Or.inr fun y _ => fits_emp y x a ao c)
      · rw [if_neg (by decide)]
        refine node_of w b v bs n kProg x a ao 0 c ⟨#[42]⟩ _ hb (by omega) (fun y _ => fits_prog y x a ao c) (fun y _ => pat_prog y x a _ ⟨_, _, _, rfl⟩) (fun y g => ?_)
        have H := fill_any y B b v bs n kProg x a ao 0 c ⟨#[42]⟩ (fun _ => []) [] (by omega) (by omega) (hb.g g) hB hv (Nat.le_trans hBw g.size) (by rw [fillP_prog]; rw [if_neg (by decide)] at hlen; exact hlen) (by decide) (fun j hj hm => by
          have hm : UInt8.ofNat (48 + j) ∈ [42] := hm
          have : j = 0 ∨ j = 1 ∨ j = 2 := by omega
          rcases this with rfl | rfl | rfl <;> simp at hm) (fun _ z v2 bs2 _ _ hb2 _ _ => (many_prog z b (n + 1) x a ao c).mono (by rintro e w' ⟨rfl, g2⟩; exact wpost_nil hb2 g2))
        rw [fillP_prog] at H
        exact H
      · rw [if_neg (by decide)]
        exact node_no w b v bs n kBin x a ao 0 c hb (Or.inr fun y _ => fits_bin0 y x a ao c)
  | .one x a t, n, w, B, b, v, bs, kv, ok, hn, ht, hB, hv, hBw, hb, hlen => by
    obtain ⟨g, c, kv1, rfl, hg, hc, ht1⟩ := ht
    by_cases h : 199 < n
    · rw [show shP n (.one x a t) = [] from if_pos h]
      exact node_no w b v bs n kUn x a _ 1 c hb (Or.inl (by omega))
    · have e0 : shP n (.one x a t) = [40] ++ (x.data.toList ++ ([32] ++ (shP (n + 1) t ++ [41]))) := if_neg h
      rw [e0] at hlen ⊢
      refine node_of w b v bs n kUn x a (some ⟨g, 0, none⟩) 1 c ⟨#[40, 36, 32, 48, 41]⟩ _ hb (by omega) (fun y gy => fits_un y x a g c t.k (gy.cell (hc 0 _ rfl)) ok.1) (fun y _ => pat_un y x a _ ⟨_, _, _, rfl⟩) (fun y gy => ?_)
      have H := fill_any y B b v bs n kUn x a (some ⟨g, 0, none⟩) 1 c ⟨#[40, 36, 32, 48, 41]⟩ (fun _ => shP (n + 1) t) [] (by omega) (by omega) (hb.g gy) hB hv (Nat.le_trans hBw gy.size) (by rw [fillP_un]; exact hlen) (by decide) (fun j hj hm => by
        have hm : UInt8.ofNat (48 + j) ∈ [40, 36, 32, 48, 41] := hm
        have h3 : j = 0 ∨ j = 1 ∨ j = 2 := by omega
        rcases h3 with rfl | rfl | rfl
        · refine ⟨by omega, g, 0, rfl, hg, t.k, t.x, t.a, kv1, fun i u hu => by simpa using gy.cell (hc i u hu), fun z v2 bs2 lo hz hb2 hv2 hl2 => ?_⟩
          have lo2 : LoK B w z := fun q hq => (lo q hq).trans (gy.block q (by omega))
          exact node_any t (n + 1) z B b v2 bs2 kv1 ok.2 (by omega) (ht1.keep lo2) hB hv2 hz hb2 hl2
        · simp at hm
        · simp at hm) (fun hm => by
        have hm : (42 : UInt8) ∈ [40, 36, 32, 48, 41] := hm
        simp at hm)
      rw [fillP_un] at H
      exact H
  | .two x a t u, n, w, B, b, v, bs, kv, ok, hn, ht, hB, hv, hBw, hb, hlen => by
    obtain ⟨g, c, kv1, kv2, rfl, hg, hc, hd, ht1, hu1⟩ := ht
    by_cases h : 199 < n
    · rw [show shP n (.two x a t u) = [] from if_pos h]
      exact node_no w b v bs n kBin x a _ 2 c hb (Or.inl (by omega))
    · have e0 : shP n (.two x a t u) = [40] ++ (shP (n + 1) t ++ ([32] ++ (x.data.toList ++ ([32] ++ (shP (n + 1) u ++ [41]))))) := if_neg h
      rw [e0] at hlen ⊢
      refine node_of w b v bs n kBin x a (some ⟨g, 0, none⟩) 2 c ⟨#[40, 48, 32, 36, 32, 49, 41]⟩ _ hb (by omega) (fun y gy => fits_bin y x a g c t.k (gy.cell (hc 0 _ rfl)) ok.1.1 u.k (gy.cell (hd 0 _ rfl)) ok.2.1) (fun y _ => pat_bin y x a _ ⟨_, _, _, rfl⟩) (fun y gy => ?_)
      have H := fill_any y B b v bs n kBin x a (some ⟨g, 0, none⟩) 2 c ⟨#[40, 48, 32, 36, 32, 49, 41]⟩ (fun j => if j = 0 then shP (n + 1) t else shP (n + 1) u) [] (by omega) (by omega) (hb.g gy) hB hv (Nat.le_trans hBw gy.size) (by rw [fillP_bin]; exact hlen) (by decide) (fun j hj hm => by
        have hm : UInt8.ofNat (48 + j) ∈ [40, 48, 32, 36, 32, 49, 41] := hm
        have h3 : j = 0 ∨ j = 1 ∨ j = 2 := by omega
        rcases h3 with rfl | rfl | rfl
        · refine ⟨by omega, g, 0, rfl, hg, t.k, t.x, t.a, kv1, fun i q hq => by simpa using gy.cell (hc i q hq), fun z v2 bs2 lo hz hb2 hv2 hl2 => ?_⟩
          have lo2 : LoK B w z := fun q hq => (lo q hq).trans (gy.block q (by omega))
          exact node_any t (n + 1) z B b v2 bs2 kv1 ok.1.2 (by omega) (ht1.keep lo2) hB hv2 hz hb2 hl2
        · refine ⟨by omega, g, 0, rfl, hg, u.k, u.x, u.a, kv2, fun i q hq => by simpa using gy.cell (hd i q hq), fun z v2 bs2 lo hz hb2 hv2 hl2 => ?_⟩
          have lo2 : LoK B w z := fun q hq => (lo q hq).trans (gy.block q (by omega))
          exact node_any u (n + 1) z B b v2 bs2 kv2 ok.2.2 (by omega) (hu1.keep lo2) hB hv2 hz hb2 hl2
        · simp at hm) (fun hm => by
        have hm : (42 : UInt8) ∈ [40, 48, 32, 36, 32, 49, 41] := hm
        simp at hm)
      rw [fillP_bin] at H
      exact H
end Go.Proofs.Ythbpmekfgkagiaa
