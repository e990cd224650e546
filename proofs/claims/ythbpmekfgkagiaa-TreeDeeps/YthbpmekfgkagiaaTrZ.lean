/- Package tree: Show, Size, Deep, Same of trees of a few kinds. -/
import Derived.Test.YthbpmekfgkagiaaTrS
namespace Go.Proofs.Ythbpmekfgkagiaa
set_option maxRecDepth 100000
open Go.RowKit Go.Maps Go.ChangeShapes Go.WideShapes Go.ChangeAt Go.Deep

theorem bytes_of (l : List UInt8) : (ByteArray.mk l.toArray).data.toList = l := by simp
set_option maxHeartbeats 2000000 in
theorem show_any (t : T1) (w : World) (kv : Value) (ok : t.ok) (ht : TAt w w.heap.size t kv) (hlen : (shP 0 t).length ≤ 140737488355328) :
    Calls Try.prog 7 #[.agg (ndL t.k t.x t.a kv)] w fun e w' => e = .returned (.string ⟨(shP 0 t).toArray⟩) ∧ G w w' := by
  obtain ⟨W, hW⟩ : ∃ W, W = (w.alloc (.cells (ndL t.k t.x t.a kv) 26)).alloc (.cells #[.pointer none, .slice none 0 0] 42) := ⟨_, rfl⟩
  have g : G w W := by rw [hW]; exact (G.alloc _ _).more _
  have zW : W.heap.size = w.heap.size + 2 := by rw [hW, World.size_alloc, World.size_alloc]
  have hh : W.heap[w.heap.size + 1]? = some (.cells #[.pointer none, .slice none 0 0] 42) := by
    have := heap_alloc_new (w.alloc (.cells (ndL t.k t.x t.a kv) 26)) (.cells #[.pointer none, .slice none 0 0] 42)
    rw [World.size_alloc] at this
    rw [hW]; exact this
  have hbd : Bd (w.heap.size + 1) (.slice none 0 0) [] W := Or.inl ⟨hh, World.ownsRow_nil _ _ _ _, by simp [Value.ownBlock], fun _ => rfl⟩
  have htW : TAt W w.heap.size t kv := ht.keep (fun q hq => g.block q hq)
  have hc : ∀ i u, (ndL t.k t.x t.a kv)[i]? = some u → W.cell? ⟨w.heap.size, i, none⟩ = some u := fun i u h => by
    rw [hW, World.cell?_alloc_past _ _ _ (by rw [World.size_alloc]; show w.heap.size < _; omega), World.cell?_alloc_new]; exact h
  have c0 := hc 0 _ rfl
  have c1 := hc 1 _ rfl
  have c2 := hc 2 _ rfl
  have c3 := hc 3 _ rfl
  have CN := hide (node_any t 0 W w.heap.size (w.heap.size + 1) (.slice none 0 0) [] kv ok (by omega) htW (by omega) (fun q hq => by simp [Value.ownBlock] at hq) g.size hbd (by simpa using hlen))
  have SS : Hid (∀ y v', Bd (w.heap.size + 1) v' (Lib.byteCells (shP 0 t)) y → Kb (w.heap.size + 1) (.slice none 0 0) W y → NewRow W (.slice none 0 0) v' → Calls Try.prog 16 #[.pointer (some ⟨w.heap.size + 1, 0, none⟩)] y fun e w' => e = .returned (.string ⟨(shP 0 t).toArray⟩) ∧ G w w') := hide fun y v' h1 h2 h3 => by
    have gy : G w y := ⟨h2.os.trans g.os, h2.tape.trans g.tape, h2.output.trans g.output, Nat.le_trans g.size h2.size, fun q hq => (h2.block q (by omega) (by omega) (by simp [Value.ownBlock])).trans (g.block q hq)⟩
    have hlo := h3.lo (B := w.heap.size) (fun q hq => by simp [Value.ownBlock] at hq) g.size
    have fin : ∀ (e : Ending) (w' : World) (s : Value), e = .returned s ∧ Below w.heap.size y w' → e = .returned s ∧ G w w' := fun e w' s h => ⟨h.1, Below.trans gy h.2⟩
    by_cases h0 : shP 0 t = []
    · rw [h0] at h1 ⊢
      have hv : v' = .slice none 0 0 := by
        rcases h1 with h | h
        · exact h.2.2.2 rfl
        · exact h.2.2.2 rfl
      subst hv
      exact (bstr_nil _ y h1 w.heap.size).mono (fun e w' h => fin e w' _ h)
    · exact (bstr_some _ v' _ y h1 h0 w.heap.size hlo).mono (fun e w' h => fin e w' _ h)
  obtain ⟨ao, n, c, rfl⟩ := ht.sl
  obtain ⟨k, hk⟩ : ∃ k, k = t.k := ⟨_, rfl⟩
  obtain ⟨x, hx⟩ : ∃ x, x = t.x := ⟨_, rfl⟩
  obtain ⟨a, ha⟩ : ∃ a, a = t.a := ⟨_, rfl⟩
  rw [← hk] at hW c0 CN
  rw [← hx] at hW c1 CN
  rw [← ha] at hW c2 CN
  rw [← hk, ← hx, ← ha]
  clear hk hx ha hc htW hbd hh zW g ht ok hlen
  go_enter Try.func7, Try.ntmps7
  go_upto_region 2 with fail
  rw [← hW]
  clear hW
  go_wp2_with fail
  refine (unhide CN).mono ?_
  rintro e w1 ⟨rfl, v', h1, h2, h3⟩
  have S := hide (unhide SS w1 v' h1 h2 h3)
  clear CN SS h1 h2 h3 c0 c1 c2 c3
  go_wp2_with fail
  refine (unhide S).mono ?_
  rintro e w2 ⟨rfl, g⟩
  clear S
  go_wp2_with fail
  go_ret
  exact ⟨rfl, g⟩
def sumTo (s : Nat → Nat) : Nat → Nat
  | 0 => 0
  | n + 1 => sumTo s n + s n
theorem sumTo_le (s : Nat → Nat) : ∀ n m, n ≤ m → sumTo s n ≤ sumTo s m
  | n, 0, h => by obtain rfl : n = 0 := by omega
                  exact Nat.le_refl _
  | n, m + 1, h => by
    by_cases e : n = m + 1
    · rw [e]; exact Nat.le_refl _
    · exact Nat.le_trans (sumTo_le s n m (by omega)) (Nat.le_add_right _ _)
def maxTo (s : Nat → Nat) : Nat → Nat
  | 0 => 0
  | n + 1 => max (maxTo s n) (s n)
/-- A row of kids, each with what a call says of it. -/
def KidsC (w : World) (kg : Option Addr) (kn : Nat) (R : Nat → ByteArray → ByteArray → Int → Value → Prop) : Prop := ∀ j, j < kn → ∃ g off k x a kv, kg = some ⟨g, off, none⟩ ∧ (∀ i u, (ndL k x a kv)[i]? = some u → w.cell? ⟨g, off + j * 4 + i, none⟩ = some u) ∧ R j k x a kv
set_option maxHeartbeats 2000000 in
theorem size_of (w : World) (k x : ByteArray) (a : Int) (kg : Option Addr) (kn kc : Nat) (s : Nat → Nat) (hn : kn ≤ 1000) (hs : sumTo s kn ≤ 1000000)
    (H : KidsC w kg kn fun j k x a kv => (∃ ao n c, kv = .slice ao n c) ∧ ∀ y, G w y → Calls Try.prog 8 #[.agg (ndL k x a kv)] y fun e w' => e = .returned (.int .i64 (s j : Int)) ∧ G y w') :
    Calls Try.prog 8 #[.agg (ndL k x a (.slice kg kn kc))] w fun e w' => e = .returned (.int .i64 ((1 + sumTo s kn : Nat) : Int)) ∧ G w w' := by
  have g0 := G.alloc w (.cells (ndL k x a (.slice kg kn kc)) 26)
  replace H := hide H
  replace hs := hide hs
  go_enter Try.func8, Try.ntmps8
  go_wp2_with fail
  have st : Hid (G w (w.alloc (.cells (ndL k x a (.slice kg kn kc)) 26))) := hide g0
  clear g0
  go_loopw [3, 5, 9] (fun z _ i wr => ∃ n : Nat, n ≤ kn ∧ i = .int .i64 (n : Int) ∧ z = .int .i64 ((1 + sumTo s n : Nat) : Int) ∧ Hid (G w wr)) (fun _ _ i _ => kn - (intOf i).toNat)
  case atStart => exact ⟨0, Nat.zero_le _, rfl, rfl, st⟩
  case round =>
    obtain ⟨n, hle, rfl, rfl, hg⟩ := hrel
    clear st
    by_cases hlt : n < kn
    · obtain ⟨g, off, k1, x1, a1, kv1, rfl, hc, ⟨ao1, n1, c1, rfl⟩, HC⟩ := unhide H n hlt
      have q0 := (unhide hg).cell (hc 0 _ rfl)
      have q1 := (unhide hg).cell (hc 1 _ rfl)
      have q2 := (unhide hg).cell (hc 2 _ rfl)
      have q3 := (unhide hg).cell (hc 3 _ rfl)
      simp only [Nat.add_zero] at q0
      have gb := G.alloc wr (.cells (ndL k1 x1 a1 (.slice ao1 n1 c1)) 26)
      have C := hide (HC _ ((unhide hg).trans gb))
      have gn := hide ((unhide hg).trans gb)
      have hsl := sumTo_le s (n + 1) kn (by omega)
      have hs2 := unhide hs
      have e1 : wrap64 (1 + (sumTo s n : Int) + (s n : Int)) = 1 + (sumTo s (n + 1) : Int) := by
        have : sumTo s (n + 1) = sumTo s n + s n := rfl
        unfold wrap64; omega
      clear hc HC hsl hs2 gb H
      go_upto_region 5 with fail
      go_wp2_with fail
      refine (unhide C).mono ?_
      rintro e w2 ⟨rfl, g2⟩
      have gz := hide ((unhide gn).trans g2)
      clear g2 gn C hg q0 q1 q2 q3
      go_wp2_with fail
      go_roundw
      case rel => exact ⟨n + 1, by omega, by go_num, by first | (simp only [Value.int.injEq, true_and, Int.natCast_add, Int.cast_ofNat_Int]; exact e1) | (push_cast; exact e1) | (simp; exact e1), gz⟩
      case measure => simp [intOf]; omega
    · obtain rfl : n = kn := by omega
      clear H
      go_wp2_with fail
      go_ret
      exact ⟨rfl, unhide hg⟩
theorem maxTo_le (s : Nat → Nat) : ∀ n m, (∀ j, j < n → s j ≤ m) → maxTo s n ≤ m
  | 0, _, _ => Nat.zero_le _
  | n + 1, m, h => by
    have h1 := maxTo_le s n m (fun j hj => h j (by omega))
    have h2 := h n (by omega)
    show max (maxTo s n) (s n) ≤ m
    omega
set_option maxHeartbeats 2000000 in
theorem deep_of (w : World) (k x : ByteArray) (a : Int) (kg : Option Addr) (kn kc : Nat) (s : Nat → Nat) (hn : kn ≤ 1000) (hs : ∀ j, j < kn → s j ≤ 1000000)
    (H : KidsC w kg kn fun j k x a kv => (∃ ao n c, kv = .slice ao n c) ∧ ∀ y, G w y → Calls Try.prog 9 #[.agg (ndL k x a kv)] y fun e w' => e = .returned (.int .i64 (s j : Int)) ∧ G y w') :
    Calls Try.prog 9 #[.agg (ndL k x a (.slice kg kn kc))] w fun e w' => e = .returned (.int .i64 ((maxTo s kn + 1 : Nat) : Int)) ∧ G w w' := by
  have g0 := G.alloc w (.cells (ndL k x a (.slice kg kn kc)) 26)
  replace H := hide H
  replace hs := hide hs
  go_enter Try.func9, Try.ntmps9
  go_wp2_with fail
  have st : Hid (G w (w.alloc (.cells (ndL k x a (.slice kg kn kc)) 26))) := hide g0
  clear g0
  go_loopw [3, 5, 9] (fun z _ i wr => ∃ n : Nat, n ≤ kn ∧ i = .int .i64 (n : Int) ∧ z = .int .i64 ((maxTo s n : Nat) : Int) ∧ Hid (G w wr)) (fun _ _ i _ => kn - (intOf i).toNat)
  case atStart => exact ⟨0, Nat.zero_le _, rfl, rfl, st⟩
  case round =>
    obtain ⟨n, hle, rfl, rfl, hg⟩ := hrel
    clear st
    by_cases hlt : n < kn
    · obtain ⟨g, off, k1, x1, a1, kv1, rfl, hc, ⟨ao1, n1, c1, rfl⟩, HC⟩ := unhide H n hlt
      have q0 := (unhide hg).cell (hc 0 _ rfl)
      have q1 := (unhide hg).cell (hc 1 _ rfl)
      have q2 := (unhide hg).cell (hc 2 _ rfl)
      have q3 := (unhide hg).cell (hc 3 _ rfl)
      simp only [Nat.add_zero] at q0
      have gb := G.alloc wr (.cells (ndL k1 x1 a1 (.slice ao1 n1 c1)) 26)
      have C := hide (HC _ ((unhide hg).trans gb))
      have gn := hide ((unhide hg).trans gb)
      have e1 : (if maxTo s n < s n then (s n : Int) else (maxTo s n : Int)) = ((maxTo s (n + 1) : Nat) : Int) := by
        show _ = ((max (maxTo s n) (s n) : Nat) : Int)
        split <;> omega
      clear hc HC gb H
      go_upto_region 5 with fail
      go_wp2_with fail
      refine (unhide C).mono ?_
      rintro e w2 ⟨rfl, g2⟩
      have gz := hide ((unhide gn).trans g2)
      clear g2 gn C hg q0 q1 q2 q3
      go_wp2_with fail
      go_roundw
      case rel => exact ⟨n + 1, by omega, by go_num, by first | rfl | exact e1, gz⟩
      case measure => simp [intOf]; omega
    · obtain rfl : n = kn := by omega
      have hm := maxTo_le s n 1000000 (fun j hj => unhide hs j hj)
      have e2 : wrap64 ((maxTo s n : Int) + 1) = (maxTo s n : Int) + 1 := by unfold wrap64; omega
      clear H
      go_wp2_with fail
      go_ret
      exact ⟨by first | rfl | simp [e2], unhide hg⟩
end Go.Proofs.Ythbpmekfgkagiaa
