/- Rows of ints that are answered, or grown by the call. -/
import Derived.Test.YtnliooflpclcbaaGreatDoorCodeRmodH
import Derived.Laws.OwnMore
namespace Go.Proofs.YtnliooflpclcbaaGreatDoor
set_option maxRecDepth 100000
open Go.RowKit Go.Maps Go.ChangeShapes Go.WideShapes Go.ChangeAt Go.Deep

/-- The ints l lie there. -/
def IsL (w : World) (v : Value) (l : List Int) : Prop := ∃ ao c, v = .slice ao l.length c ∧ l.length ≤ c ∧ RowAt elI w ao l.length c l
theorem IsL.g {w w' : World} {v : Value} {l : List Int} (h : IsL w v l) (g : G w w') : IsL w' v l := by
  obtain ⟨ao, c, e, h1, h2⟩ := h
  exact ⟨ao, c, e, h1, h2.g okI g⟩
/-- A call answers the ints l. -/
def LTo (x : World) (l : List Int) (e : Ending) (w' : World) : Prop := ∃ v, e = .returned v ∧ IsL w' v l ∧ G x w'
theorem isl_nil (w : World) : IsL w (.slice none 0 0) [] := ⟨none, 0, rfl, Nat.le_refl _, RowAt.nil w⟩
theorem isl_new (x : World) (vs : List Int) (h : vs.length ≤ maxLen) : IsL (x.alloc (.cells (vs.map (Value.int .i64)).toArray 3)) (.slice (some ⟨x.heap.size, 0, none⟩) vs.length vs.length) vs := by
  refine ⟨_, _, rfl, Nat.le_refl _, rfl, h, (fun e => by cases e), Or.inr ⟨x.heap.size, 0, rfl, by rw [World.size_alloc]; omega, fun i a hi => ⟨[.int .i64 a], rfl, fun q u hq => ?_⟩⟩⟩
  match q, hq with
  | 0, hq =>
    simp at hq
    subst hq
    rw [cell_of_row _ _ _ _ _ _ (heap_alloc_new x _)]
    simp [elI, hi]
  | q + 1, hq => simp at hq
/-- A row of ints of the call's own. -/
abbrev OwnL (w : World) (B : Nat) (v : Value) (l : List Int) : Prop := w.ownsRow B 3 1 v l.length (l.map (Value.int .i64))
theorem ownl_nil (w : World) (B : Nat) : OwnL w B (.slice none 0 0) [] := ⟨by simp, Or.inl ⟨rfl, rfl⟩⟩
theorem OwnL.isl {w : World} {B : Nat} {v : Value} {l : List Int} (h : OwnL w B v l) : IsL w v l := by
  rcases h.2 with ⟨rfl, e2⟩ | ⟨g, cap, cur, rfl, h2, h3, h4, h5, h6, h7⟩
  · obtain rfl : l = [] := List.eq_nil_of_length_eq_zero e2
    exact isl_nil w
  · have hlt : g < w.heap.size := by
      rcases Nat.lt_or_ge g w.heap.size with hh | hh
      · exact hh
      · rw [Array.getElem?_eq_none hh] at h3; cases h3
    refine ⟨some ⟨g, 0, none⟩, cap, rfl, h4, rfl, Nat.le_trans h4 h5, (fun e => by cases e), Or.inr ⟨g, 0, rfl, hlt, fun i a hi => ⟨[.int .i64 a], rfl, fun q u hq => ?_⟩⟩⟩
    match q, hq with
    | 0, hq =>
      simp at hq
      subst hq
      have h8 : (l.map (Value.int .i64))[i]? = some (.int .i64 a) := by simp [hi]
      rw [← h7, List.getElem?_take] at h8
      split at h8
      · rw [cell_of_row _ _ _ _ _ _ h3]
        simpa [elI] using h8
      · cases h8
    | q + 1, hq => simp at hq
theorem info_int : (Tryz.prog.info? 3).map (fun i => (i.zero, i.size, i.bytes)) = some (some (.int .i64 0), 1, 8) := by kernel_rfl
/-- append(v, u...) onto a row of the call's own. -/
theorem own_app {w : World} {B : Nat} {v u : Value} {l l2 : List Int} (h : OwnL w B v l) (hB : B ≤ w.heap.size) (hu : IsL w u l2) (hn : l.length + l2.length ≤ 10000000) :
    ∃ v' w', (Builtin.append_ #[55, 55] 55 #[v, u]).run Tryz.prog w = .ok v' w' ∧ OwnL w' B v' (l ++ l2) ∧ Below B w w' := by
  obtain ⟨i, hi, hz, hs, hb⟩ := info_parts info_int
  obtain ⟨ao, c, rfl, h1, hr⟩ := hu
  have key : l2 = [] ∧ ao = none ∨ ∃ a, ao = some a := by
    cases ao with
    | none =>
      left
      have := hr.2.2.1 rfl
      exact ⟨List.eq_nil_of_length_eq_zero (by omega), rfl⟩
    | some a => exact Or.inr ⟨a, rfl⟩
  rcases key with ⟨rfl, rfl⟩ | ⟨a, rfl⟩
  · have hc : c = 0 := hr.2.2.1 rfl
    subst hc
    exact ⟨v, w, run_append_owned_none (P := Tryz.prog) (w := w) B 55 55 3 i 1 Tryz.underlying55 hi v _ _ h, by simpa using h, Below.refl _ _⟩
  · have hcell : ∀ j x, (l2.map (Value.int .i64))[j]? = some x → w.cell? (a.add j) = some x := fun j x hj => by
      rw [List.getElem?_map] at hj
      obtain ⟨z, hz1, rfl⟩ := Option.map_eq_some_iff.1 hj
      rcases hr.2.2.2 with h0 | ⟨b, off, e, hbl, hc⟩
      · have := (List.getElem?_eq_some_iff.1 hz1).1
        omega
      · cases e
        obtain ⟨cs, ecs, hcs⟩ := hc j z hz1
        have ecs : cs = [.int .i64 z] := ecs
        subst ecs
        have h4 := hcs 0 _ rfl
        rw [Addr.add_lit]
        simpa [elI] using h4
    obtain ⟨v', w', hrun, r1, r2, _, r4⟩ := run_append_own_at (P := Tryz.prog) w B 55 55 3 i _ 1 8 Tryz.underlying55 hi hz hs hb rfl (by decide) v l.length _ h a l2.length c (l2.map (Value.int .i64)) (by simp) hcell
      (fun x hx => by obtain ⟨z, _, rfl⟩ := List.mem_map.1 hx; rfl) (by unfold maxLen; omega) (by omega) hB
    have hbo := own_blk h
    refine ⟨v', w', hrun, ?_, Below.grown (Below.refl _ _) r2 hB (fun q hq => hbo q hq)⟩
    have : OwnL w' B v' (l ++ l2) := by
      show w'.ownsRow B 3 1 v' (l ++ l2).length ((l ++ l2).map (Value.int .i64))
      rw [List.length_append, List.map_append]
      exact r1
    exact this
/-- One more int. -/
theorem own_app1 {w : World} {B : Nat} {v : Value} {l : List Int} (a : Int) (h : OwnL w B v l) (hB : B ≤ w.heap.size) (hn : l.length < 10000000) :
    ∃ v' w', (Builtin.append_ #[55, 55] 55 #[v, .slice (some ⟨w.heap.size, 0, none⟩) 1 1]).run Tryz.prog (w.alloc (.cells #[.int .i64 a] 3)) = .ok v' w' ∧ OwnL w' B v' (l ++ [a]) ∧ Below B w w' := by
  have ga := G.alloc w (.cells #[.int .i64 a] 3)
  have h2 : OwnL (w.alloc (.cells #[.int .i64 a] 3)) B v l := own_kept h (fun b _ hb => ga.block b hb)
  obtain ⟨v', w', r1, r2, r3⟩ := own_app h2 (Nat.le_trans hB ga.size) (isl_new w [a] (by show 1 ≤ maxLen; decide)) (by simp; omega)
  exact ⟨v', w', r1, r2, Below.trans (Below.mono ga hB) r3⟩
/-- What lies there, read. -/
theorem IsL.get {w : World} {v : Value} {l : List Int} (h : IsL w v l) : ∃ ao c, v = .slice ao l.length c ∧ l.length ≤ c ∧ ∀ k, k < l.length → ∃ b off a, ao = some ⟨b, off, none⟩ ∧ l[k]? = some a ∧ ∀ x, G w x → x.cell? ⟨b, off + k, none⟩ = some (.int .i64 a) := by
  obtain ⟨ao, c, e, h1, hr⟩ := h
  refine ⟨ao, c, e, h1, fun k hk => ?_⟩
  obtain ⟨b, off, a, cs, e2, ha, ecs, hcs⟩ := row_get hr hk
  have ecs : cs = [.int .i64 a] := ecs
  subst ecs
  refine ⟨b, off, a, e2, ha, fun x g => ?_⟩
  have := hcs x g 0 _ rfl
  simpa [elI] using this

set_option maxHeartbeats 1000000 in
theorem named_any (w : World) (v : Value) (l : List Int) (h : IsL w v l) (hn : l.length ≤ 1000000) :
    Calls Tryz.prog 59 #[v] w (LTo w (l.filter (fun s => s != -1))) := by
  obtain ⟨ao, c, rfl, hc, hget⟩ := h.get
  obtain ⟨n, hln⟩ : ∃ n, n = l.length := ⟨_, rfl⟩
  have RD : Hid (∀ (k : Nat) (wr : World) (vb : Value), k < n → (OwnL wr w.heap.size vb ((l.take k).filter (fun s => s != -1)) ∧ G w wr) → ∃ (b off : Nat) (a : Int), ao = some ⟨b, off, none⟩ ∧ wr.cell? ⟨b, off + k, none⟩ = some (.int .i64 a) ∧
      ((a == -1) = true → OwnL wr w.heap.size vb ((l.take (k + 1)).filter (fun s => s != -1)) ∧ G w wr) ∧
      ((a == -1) = false → ∃ v' w', (Builtin.append_ #[55, 55] 55 #[vb, .slice (some ⟨wr.heap.size, 0, none⟩) 1 1]).run Tryz.prog (wr.alloc (.cells #[.int .i64 a] 3)) = .ok v' w' ∧ OwnL w' w.heap.size v' ((l.take (k + 1)).filter (fun s => s != -1)) ∧ G w w')) := hide fun k wr vb hk HW => by
    obtain ⟨b, off, a, e, ha, hx⟩ := hget k (by omega)
    refine ⟨b, off, a, e, hx wr HW.2, fun h1 => ?_, fun h1 => ?_⟩
    · rw [List.take_add_one, ha, List.filter_append]
      have : ([a] : List Int).filter (fun s => s != -1) = [] := by simp [bne, h1]
      simp only [Option.toList_some, this, List.append_nil]
      exact HW
    · obtain ⟨v', w', r1, r2, r3⟩ := own_app1 a HW.1 HW.2.size (by have := List.length_filter_le (fun s : Int => s != -1) (l.take k); rw [List.length_take] at this; omega)
      refine ⟨v', w', r1, ?_, ⟨r3.os.trans HW.2.os, r3.tape.trans HW.2.tape, r3.output.trans HW.2.output, Nat.le_trans HW.2.size r3.size, fun b hb => (r3.block b hb).trans (HW.2.block b hb)⟩⟩
      rw [List.take_add_one, ha, List.filter_append]
      have : ([a] : List Int).filter (fun s => s != -1) = [a] := by simp [bne, h1]
      simp only [Option.toList_some, this]
      exact r2
  have ST : Hid (OwnL w w.heap.size (.slice none 0 0) ((l.take 0).filter (fun s => s != -1)) ∧ G w w) := hide ⟨ownl_nil _ _, G.refl w⟩
  have FI : Hid (∀ wr vb, (OwnL wr w.heap.size vb ((l.take n).filter (fun s => s != -1)) ∧ G w wr) → LTo w (l.filter (fun s => s != -1)) (.returned vb) wr) := hide fun wr vb HW => by
    rw [List.take_of_length_le (by omega)] at HW
    exact ⟨vb, rfl, HW.1.isl, HW.2⟩
  have hnn : n ≤ 1000000 := by omega
  rw [← hln]
  clear h hget hn hln
  go_enter Tryz.func59, Tryz.ntmps59
  go_wp2_with fail
  go_loopw [3, 8] (fun b i wr => ∃ k : Nat, k ≤ n ∧ i = .int .i64 k ∧ Hid (OwnL wr w.heap.size b ((l.take k).filter (fun s => s != -1)) ∧ G w wr)) (fun _ i _ => n - (intOf i).toNat)
  case atStart => exact ⟨0, Nat.zero_le _, rfl, ST⟩
  case round =>
    obtain ⟨k, hk, rfl, HW⟩ := hrel
    by_cases hlt : k < n
    · obtain ⟨b, off, a, rfl, hc0, h1, h2⟩ := unhide RD k wr _ hlt (unhide HW)
      replace h1 := hide h1
      replace h2 := hide h2
      clear HW
      cases hq : (a == -1)
      · have AP := hide (unhide h2 hq)
        clear h1 h2
        go_wp2_with (at_builtin; obtain ⟨v', w', hrun, HG⟩ := unhide AP; replace HG := hide HG; refine wpl_run rfl (.tmp 14) (.tmp 16) 55 rfl _ _ rfl rfl _ _ hrun ?_; clear hrun AP)
        go_roundw
        case rel => exact ⟨k + 1, by omega, by go_num, HG⟩
        case measure => simp [intOf]; omega
      · have HG := hide (unhide h1 hq)
        clear h1 h2
        go_wp2_with fail
        go_roundw
        case rel => exact ⟨k + 1, by omega, by go_num, HG⟩
        case measure => simp [intOf]; omega
    · obtain rfl : k = n := by omega
      have K := hide (unhide FI wr _ (unhide HW))
      clear HW FI RD
      go_wp2_with fail
      refine bodyPost_ret (by simp [results, Tryz.results59, go_sem]; try rfl) rfl ?_
      exact unhide K
end Go.Proofs.YtnliooflpclcbaaGreatDoor
