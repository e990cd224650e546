/- Lists of numbers are the same: gantlineref17.Ints, nums of gantlinelaw10; powerBelow of package live. -/
import Derived.Test.YtnliooflpclcbaaGreatDoorLiveRow
namespace Go.Proofs.YtnliooflpclcbaaGreatDoor
set_option maxRecDepth 100000
open Go.RowKit Go.Maps Go.ChangeShapes Go.WideShapes Go.ChangeAt Go.Deep

/-- A slice that holds uint64s. -/
def IsN (w : World) (v : Value) (l : List Nat) : Prop := ∃ ao c, v = .slice ao l.length c ∧ l.length ≤ c ∧ RowAt elU w ao l.length c l
theorem IsN.g {w w' : World} {v : Value} {l : List Nat} (h : IsN w v l) (g : G w w') : IsN w' v l := by
  obtain ⟨ao, c, e, h1, h2⟩ := h
  exact ⟨ao, c, e, h1, h2.g okU g⟩
theorem isn_new (x : World) (vs : List Nat) (h : vs.length ≤ maxLen) : IsN (x.alloc (.cells (vs.map (fun (v : Nat) => Value.int .u64 (v : Int))).toArray 35)) (.slice (some ⟨x.heap.size, 0, none⟩) vs.length vs.length) vs := by
  refine ⟨_, _, rfl, Nat.le_refl _, rfl, h, (fun e => by cases e), Or.inr ⟨x.heap.size, 0, rfl, by rw [World.size_alloc]; omega, fun i a hi => ⟨[.int .u64 (a : Int)], rfl, fun q u hq => ?_⟩⟩⟩
  match q, hq with
  | 0, hq =>
    simp at hq
    subst hq
    rw [cell_of_row _ _ _ _ _ _ (heap_alloc_new x _)]
    simp [elU, hi]
  | q + 1, hq => simp at hq
theorem IsN.get {w : World} {v : Value} {l : List Nat} (h : IsN w v l) : ∃ ao c, v = .slice ao l.length c ∧ l.length ≤ c ∧ ∀ k, k < l.length → ∃ b off a, ao = some ⟨b, off, none⟩ ∧ l[k]? = some a ∧ ∀ x, G w x → x.cell? ⟨b, off + k, none⟩ = some (.int .u64 (a : Int)) := by
  obtain ⟨ao, c, e, h1, hr⟩ := h
  refine ⟨ao, c, e, h1, fun k hk => ?_⟩
  obtain ⟨b, off, a, cs, e2, ha, ecs, hcs⟩ := row_get hr hk
  have ecs : cs = [.int .u64 (a : Int)] := ecs
  subst ecs
  refine ⟨b, off, a, e2, ha, fun x g => ?_⟩
  have := hcs x g 0 _ rfl
  simpa [elU] using this
theorem take_more {α : Type} {a b : List α} {k : Nat} {x y : α} (h : a.take k = b.take k) (hx : a[k]? = some x) (hy : b[k]? = some y) (e : x = y) : a.take (k + 1) = b.take (k + 1) := by
  rw [List.take_add_one, List.take_add_one, h, hx, hy, e]
/-- The greatest power of two below n. -/
def PwTo (n : Nat) (w : World) (e : Ending) (w' : World) : Prop := ∃ p : Nat, e = .returned (.int .i64 (p : Int)) ∧ w' = w ∧ p < n ∧ n ≤ 2 * p ∧ ∃ k, p = 2 ^ k
set_option maxHeartbeats 1000000 in
theorem powerBelow_any (w : World) (n : Nat) (h2 : 2 ≤ n) (hn : n ≤ 1000000) :
    Calls Tryz.prog 74 #[.int .i64 (n : Int)] w (PwTo n w) := by
  go_enter Tryz.func74, Tryz.ntmps74
  go_wp2_with fail
  go_loopw [3] (fun v wr => ∃ p : Nat, v = .int .i64 (p : Int) ∧ p < n ∧ Hid (∃ k, p = 2 ^ k) ∧ 0 < p ∧ w = wr) (fun v _ => n - (intOf v).toNat)
  case atStart => exact ⟨1, rfl, by omega, hide ⟨0, rfl⟩, by omega, rfl⟩
  case round =>
    obtain ⟨p, rfl, hp, HK, hp0, rfl⟩ := hrel
    by_cases hlt : 2 * p < n
    · go_wp2_with fail
      obtain ⟨k, hk⟩ := unhide HK
      refine ⟨⟨p * 2, by simp, by omega, hide ⟨k + 1, by rw [hk, Nat.pow_succ]⟩, by omega, trivial⟩, ?_⟩
      show n - ((p : Int) * 2).toNat < n - (p : Int).toNat
      omega
    · go_wp2_with fail
      go_ret
      exact ⟨p, rfl, rfl, hp, by omega, unhide HK⟩
end Go.Proofs.YtnliooflpclcbaaGreatDoor
