/- Lists of numbers are the same: gantlineref17.Ints, nums of gantlinelaw10; powerBelow of package live. -/
import Derived.Test.YtpbeafgfhnlmbaaLiveRow
namespace Go.Proofs.Ytpbeafgfhnlmbaa
set_option maxRecDepth 100000
open Go.RowKit Go.Maps Go.ChangeShapes Go.WideShapes Go.ChangeAt Go.Deep

/-- A slice that holds uint64s. -/
def IsN (w : World) (v : Value) (l : List Nat) : Prop := ∃ ao c, v = .slice ao l.length c ∧ l.length ≤ c ∧ RowAt elU w ao l.length c l
theorem IsN.g {w w' : World} {v : Value} {l : List Nat} (h : IsN w v l) (g : G w w') : IsN w' v l := by
  obtain ⟨ao, c, e, h1, h2⟩ := h
  exact ⟨ao, c, e, h1, h2.g okU g⟩
theorem isn_new (x : World) (vs : List Nat) (h : vs.length ≤ maxLen) : IsN (x.alloc (.cells (vs.map (fun (v : Nat) => Value.int .u64 (v : Int))).toArray 64)) (.slice (some ⟨x.heap.size, 0, none⟩) vs.length vs.length) vs := by
  refine ⟨_, _, rfl, Nat.le_refl _, rfl, h, (fun e => by cases e), Or.inr ⟨x.heap.size, 0, rfl, by rw [World.size_alloc]; omega, fun i a hi => ⟨[.int .u64 (a : Int)], rfl, fun q u hq => ?_⟩⟩⟩
  match q, hq with
  | 0, hq =>
    simp at hq
    subst hq
    rw [cell_of_row _ _ _ _ _ _ (heap_alloc_new x _)]
    simp [elU, hi]
  | q + 1, hq => simp at hq
theorem IsN.get {w : World} {v : Value} {l : List Nat} (h : IsN w v l) : ∃ ao c, v = .slice ao l.length c ∧ l.length ≤ c ∧ ∀ k, k < l.length → ∃ b off a, ao = some ⟨b, off, none⟩ ∧ l[k]? = some a ∧ ∀ x, G w x → x.cell? ⟨b, off + k, none⟩ = some (.int .u64 (a : Int)) := by
  obtain ⟨ao, c, e, h1, hr⟩ := h
  refine ⟨ao, c, e, h1, fun k hk => ?_⟩
  obtain ⟨b, off, a, cs, e2, ha, ecs, hcs⟩ := row_get hr hk
  have ecs : cs = [.int .u64 (a : Int)] := ecs
  subst ecs
  refine ⟨b, off, a, e2, ha, fun x g => ?_⟩
  have := hcs x g 0 _ rfl
  simpa [elU] using this
theorem take_more {α : Type} {a b : List α} {k : Nat} {x y : α} (h : a.take k = b.take k) (hx : a[k]? = some x) (hy : b[k]? = some y) (e : x = y) : a.take (k + 1) = b.take (k + 1) := by
  rw [List.take_add_one, List.take_add_one, h, hx, hy, e]
set_option maxHeartbeats 1000000 in
theorem ints_any (w : World) (u v : Value) (a b : List Int) (h1 : IsL w u a) (h2 : IsL w v b) (ha : a.length ≤ 1000000) (hb : b.length ≤ 1000000) :
    Calls Try.prog 10 #[u, v] w fun e w' => e = .returned (.bool (decide (a = b))) ∧ G w w' := by
  obtain ⟨r, hr⟩ : ∃ r, r = decide (a = b) := ⟨_, rfl⟩
  rw [← hr]
  obtain ⟨ao, ac, rfl, hac, ga⟩ := h1.get
  obtain ⟨bo, bc, rfl, hbc, gb⟩ := h2.get
  clear h1 h2
  by_cases hl : a.length = b.length
  · obtain ⟨n, hn⟩ : ∃ n, n = a.length := ⟨_, rfl⟩
    have hnb : b.length = n := by omega
    have RD : Hid (∀ (wr : World) (k : Nat), G w wr → k < n → a.take k = b.take k → ∃ (p q : Nat) (x : Int) (p2 q2 : Nat) (y : Int), ao = some ⟨p, q, none⟩ ∧ bo = some ⟨p2, q2, none⟩ ∧ wr.cell? ⟨p, q + k, none⟩ = some (.int .i64 x) ∧ wr.cell? ⟨p2, q2 + k, none⟩ = some (.int .i64 y) ∧ ((x != y) = false → a.take (k + 1) = b.take (k + 1)) ∧ ((x != y) = true → r = false)) := hide (fun wr k gw hk he => by
      obtain ⟨p, q, x, e1, hx, cx⟩ := ga k (by omega)
      obtain ⟨p2, q2, y, e2, hy, cy⟩ := gb k (by omega)
      refine ⟨p, q, x, p2, q2, y, e1, e2, cx wr gw, cy wr gw, fun hq => take_more he hx hy (by simp at hq; omega), fun hq => ?_⟩
      rw [hr]
      refine decide_eq_false (fun e => ?_)
      subst e
      rw [hx] at hy
      cases hy
      simp at hq)
    have FI : Hid (a.take n = b.take n → r = true) := hide (fun h => by rw [hr]; rw [List.take_of_length_le (by omega), List.take_of_length_le (by omega)] at h; exact decide_eq_true h)
    have hnn : n ≤ 1000000 := by omega
    rw [hnb, ← hn]
    rw [hnb] at hbc
    rw [← hn] at hac
    have hnI : ((n : Int) != (n : Int)) = false := by simp
    clear ga gb hl hn hnb ha hb hr
    go_enter Try.func10, Try.ntmps10
    go_wp2_with fail
    go_loopw [5] (fun i wr => ∃ k : Nat, k ≤ n ∧ i = .int .i64 k ∧ Hid (a.take k = b.take k) ∧ Hid (G w wr)) (fun i _ => n - (intOf i).toNat)
    case atStart => exact ⟨0, Nat.zero_le _, rfl, hide rfl, hide (G.refl _)⟩
    case round =>
      obtain ⟨k, hk, rfl, HE, g⟩ := hrel
      by_cases hlt : k < n
      · obtain ⟨p, q, x, p2, q2, y, rfl, rfl, cx, cy, y1, y2⟩ := unhide RD wr k (unhide g) hlt (unhide HE)
        have hkI : (k : Int) < (n : Int) := by omega
        cases hxy : (x != y)
        · have HE2 := hide (y1 hxy)
          clear y1 y2 RD FI HE
          go_wp2_with fail
          go_quiet (fail)
          go_wp2_with fail
          go_roundw
          case rel => exact ⟨k + 1, by omega, by go_num, HE2, hide ((unhide g).trans (G.drewN _ _))⟩
          case measure => simp [intOf]; omega
        · have hf := y2 hxy
          clear y1 y2 RD FI HE
          subst hf
          go_wp2_with fail
          go_quiet (fail)
          go_wp2_with fail
          go_ret
          exact ⟨rfl, (unhide g).trans (G.drewN _ _)⟩
      · obtain rfl : k = n := by omega
        have hf := unhide FI (unhide HE)
        clear RD FI HE
        subst hf
        go_wp2_with fail
        go_ret
        exact ⟨rfl, unhide g⟩
  · have hf : decide (a = b) = false := decide_eq_false (fun e => hl (by rw [e]))
    rw [hf] at hr
    subst hr
    have hl2 : ((a.length : Int) != (b.length : Int)) = true := by simp; omega
    clear hf ga gb hl
    generalize a.length = n at *
    generalize b.length = m at *
    go_enter Try.func10, Try.ntmps10
    go_wp2_with fail
    go_ret
    exact ⟨rfl, G.refl _⟩
set_option maxHeartbeats 1000000 in
theorem nums_any (w : World) (u v : Value) (a b : List Nat) (h1 : IsN w u a) (h2 : IsN w v b) (ha : a.length ≤ 1000000) (hb : b.length ≤ 1000000) :
    Calls Try.prog 21 #[u, v] w fun e w' => e = .returned (.bool (decide (a = b))) ∧ G w w' := by
  obtain ⟨r, hr⟩ : ∃ r, r = decide (a = b) := ⟨_, rfl⟩
  rw [← hr]
  obtain ⟨ao, ac, rfl, hac, ga⟩ := h1.get
  obtain ⟨bo, bc, rfl, hbc, gb⟩ := h2.get
  clear h1 h2
  by_cases hl : a.length = b.length
  · obtain ⟨n, hn⟩ : ∃ n, n = a.length := ⟨_, rfl⟩
    have hnb : b.length = n := by omega
    have RD : Hid (∀ (wr : World) (k : Nat), G w wr → k < n → a.take k = b.take k → ∃ (p q : Nat) (x : Nat) (p2 q2 : Nat) (y : Nat), ao = some ⟨p, q, none⟩ ∧ bo = some ⟨p2, q2, none⟩ ∧ wr.cell? ⟨p, q + k, none⟩ = some (.int .u64 (x : Int)) ∧ wr.cell? ⟨p2, q2 + k, none⟩ = some (.int .u64 (y : Int)) ∧ (((x : Int) != (y : Int)) = false → a.take (k + 1) = b.take (k + 1)) ∧ (((x : Int) != (y : Int)) = true → r = false)) := hide (fun wr k gw hk he => by
      obtain ⟨p, q, x, e1, hx, cx⟩ := ga k (by omega)
      obtain ⟨p2, q2, y, e2, hy, cy⟩ := gb k (by omega)
      refine ⟨p, q, x, p2, q2, y, e1, e2, cx wr gw, cy wr gw, fun hq => take_more he hx hy (by simp at hq; omega), fun hq => ?_⟩
      rw [hr]
      refine decide_eq_false (fun e => ?_)
      subst e
      rw [hx] at hy
      cases hy
      simp at hq)
    have FI : Hid (a.take n = b.take n → r = true) := hide (fun h => by rw [hr]; rw [List.take_of_length_le (by omega), List.take_of_length_le (by omega)] at h; exact decide_eq_true h)
    have hnn : n ≤ 1000000 := by omega
    rw [hnb, ← hn]
    rw [hnb] at hbc
    rw [← hn] at hac
    have hnI : ((n : Int) != (n : Int)) = false := by simp
    clear ga gb hl hn hnb ha hb hr
    go_enter Try.func21, Try.ntmps21
    go_wp2_with fail
    go_loopw [5] (fun i wr => ∃ k : Nat, k ≤ n ∧ i = .int .i64 k ∧ Hid (a.take k = b.take k) ∧ Hid (G w wr)) (fun i _ => n - (intOf i).toNat)
    case atStart => exact ⟨0, Nat.zero_le _, rfl, hide rfl, hide (G.refl _)⟩
    case round =>
      obtain ⟨k, hk, rfl, HE, g⟩ := hrel
      by_cases hlt : k < n
      · obtain ⟨p, q, x, p2, q2, y, rfl, rfl, cx, cy, y1, y2⟩ := unhide RD wr k (unhide g) hlt (unhide HE)
        have hkI : (k : Int) < (n : Int) := by omega
        cases hxy : ((x : Int) != (y : Int))
        · have HE2 := hide (y1 hxy)
          clear y1 y2 RD FI HE
          go_wp2_with fail
          go_quiet (fail)
          go_wp2_with fail
          go_roundw
          case rel => exact ⟨k + 1, by omega, by go_num, HE2, hide ((unhide g).trans (G.drewN _ _))⟩
          case measure => simp [intOf]; omega
        · have hf := y2 hxy
          clear y1 y2 RD FI HE
          subst hf
          go_wp2_with fail
          go_quiet (fail)
          go_wp2_with fail
          go_ret
          exact ⟨rfl, (unhide g).trans (G.drewN _ _)⟩
      · obtain rfl : k = n := by omega
        have hf := unhide FI (unhide HE)
        clear RD FI HE
        subst hf
        go_wp2_with fail
        go_ret
        exact ⟨rfl, unhide g⟩
  · have hf : decide (a = b) = false := decide_eq_false (fun e => hl (by rw [e]))
    rw [hf] at hr
    subst hr
    have hl2 : ((a.length : Int) != (b.length : Int)) = true := by simp; omega
    clear hf ga gb hl
    generalize a.length = n at *
    generalize b.length = m at *
    go_enter Try.func21, Try.ntmps21
    go_wp2_with fail
    go_ret
    exact ⟨rfl, G.refl _⟩
/-- The greatest power of two below n. -/
def PwTo (n : Nat) (w : World) (e : Ending) (w' : World) : Prop := ∃ p : Nat, e = .returned (.int .i64 (p : Int)) ∧ w' = w ∧ p < n ∧ n ≤ 2 * p ∧ ∃ k, p = 2 ^ k
set_option maxHeartbeats 1000000 in
theorem powerBelow_any (w : World) (n : Nat) (h2 : 2 ≤ n) (hn : n ≤ 1000000) :
    Calls Try.prog 53 #[.int .i64 (n : Int)] w (PwTo n w) := by
  go_enter Try.func53, Try.ntmps53
  go_wp2_with fail
  go_loopw [3] (fun v wr => ∃ p : Nat, v = .int .i64 (p : Int) ∧ p < n ∧ Hid (∃ k, p = 2 ^ k) ∧ 0 < p ∧ w = wr) (fun v _ => n - (intOf v).toNat)
  case atStart => exact ⟨1, rfl, by omega, hide ⟨0, rfl⟩, by omega, rfl⟩
  case round =>
    obtain ⟨p, rfl, hp, HK, hp0, rfl⟩ := hrel
    by_cases hlt : 2 * p < n
    · go_wp2_with fail
      obtain ⟨k, hk⟩ := unhide HK
      refine ⟨⟨p * 2, by simp, by omega, hide ⟨k + 1, by rw [hk, Nat.pow_succ]⟩, by omega, trivial⟩, ?_⟩
      show n - ((p : Int) * 2).toNat < n - (p : Int).toNat
      omega
    · go_wp2_with fail
      go_ret
      exact ⟨p, rfl, rfl, hp, by omega, unhide HK⟩
end Go.Proofs.Ytpbeafgfhnlmbaa
