/- The contract of All. -/
import Derived.Test.YtacgfljhnlbbgaaGreyQ
namespace Go.Proofs.Ytacgfljhnlbbgaa
open Go.RowKit Go.Maps Go.ChangeShapes Go.WideShapes Go.ChangeAt

theorem info_int64 : (Try.prog.info? 2).map (fun i => (i.zero, i.size, i.bytes)) = some (some (.int .i64 0), 1, 8) := by kernel_rfl

/-- The first m of the numbers, as cells. -/
def pre (c : Nat → Int) (f m : Nat) : List Value := (List.range m).map fun i => .int .i64 (c (f + i))
theorem pre_len (c : Nat → Int) (f m : Nat) : (pre c f m).length = m := by simp [pre]
theorem pre_get {c : Nat → Int} {f m i : Nat} (h : i < m) : (pre c f m)[i]? = some (.int .i64 (c (f + i))) := by simp [pre, h]
theorem pre_app (c : Nat → Int) (f m d : Nat) : pre c f m ++ pre c (f + m) d = pre c f (m + d) := by
  apply List.ext_getElem?
  intro i
  rcases Nat.lt_or_ge i m with h | h
  · rw [List.getElem?_append_left (by rw [pre_len]; exact h), pre_get h, pre_get (by omega)]
  · rw [List.getElem?_append_right (by rw [pre_len]; exact h), pre_len]
    rcases Nat.lt_or_ge i (m + d) with h2 | h2
    · rw [pre_get (by omega), pre_get (by omega)]
      congr 3
      omega
    · rw [List.getElem?_eq_none (by rw [pre_len]; omega), List.getElem?_eq_none (by rw [pre_len]; omega)]
theorem pre_one (c : Nat → Int) (f m : Nat) : ∀ u ∈ pre c f m, u.oneCell' = true := by
  intro u hu
  simp [pre] at hu
  obtain ⟨i, _, rfl⟩ := hu
  rfl

def slLen : Value → Nat
  | .slice _ n _ => n
  | _ => 0

/-- While All fills its row. -/
structure AllS (w wr : World) (c : Nat → Int) (f n m : Nat) : Prop where
  row : wr.ownsRow w.heap.size 2 1 (.slice (some ⟨w.heap.size, 0, none⟩) m n) m (pre c f m)
  g : G w wr

theorem grownBy_G {w0 w w' : World} {b : Nat} (g : G w0 w) (h : w.grownBy w' (some b)) (hb : w0.heap.size ≤ b) : G w0 w' :=
  ⟨h.os.trans g.os, h.tape.trans g.tape, h.output.trans g.output, Nat.le_trans g.size h.size, fun k hk => (h.block k (Nat.lt_of_lt_of_le hk g.size) (by simp; omega)).trans (g.block k hk)⟩

theorem mk_all (n : Nat) (hn : n ≤ 1000000) (w : World) : (Instr.makeSlice 28 (.int .i64 0) (.int .i64 (n : Int))).run Try.prog w =
    .ok (.slice (some ⟨w.heap.size, 0, none⟩) 0 n) (w.alloc (.cells (madeCells #[.int .i64 0] n) 2)) := by
  obtain ⟨i0, hi0, hz0, hz1, hz2⟩ := info_parts info_int64
  have := run_make (P := Try.prog) w 28 2 i0 (.int .i64 0) Try.underlying28 hi0 hz0 .i64 .i64 0 (n : Int) (by omega) (by omega) (by rw [hz2]; omega) (by omega)
  rw [this, hz1]
  simp only [Int.toNat_natCast, Nat.mul_one]
  rfl

theorem arr_len : Try.prog.arrayLen 40 = 16 := by kernel_rfl
theorem arr_elem : Try.prog.elem 40 = 2 := by kernel_rfl
theorem arr_under : Try.prog.underlying 40 = some (.array (Try.prog.arrayLen 40) (Try.prog.elem 40)) := by kernel_rfl
theorem sl_arr (w : World) (b t : Nat) (z : Int) (h0 : t < 16) (h1 : (t : Int) ≤ z) (h2 : z ≤ 16) :
    (Instr.sliceAt 40 (.pointer (some ⟨b, 0, none⟩)) (some (.int .i64 (t : Int))) (some (.int .i64 z)) none).run Try.prog w = .ok (.slice (some ⟨b, t, none⟩) (z.toNat - t) (16 - t)) w := by
  obtain ⟨i0, hi0, hz0, hz1, hz2⟩ := info_parts info_int64
  rw [run_sliceAt_array_lh w 40 ⟨b, 0, none⟩ arr_under .i64 .i64 (t : Int) z (by omega) h1 (by rw [arr_len]; omega), arr_elem, arr_len]
  simp [sizeOf, typeInfo, hi0, hz1, Result.andThen, slicedAt]
  rw [if_neg (by omega), Addr.add_lit, Nat.zero_add]

/-- One round of All: a block's numbers behind the others. -/
theorem AllS.app {w wr w' : World} {c : Nat → Int} {f n m d : Nat} (h : AllS w wr c f n m) (hr : w'.ownsRow w.heap.size 2 1 (.slice (some ⟨w.heap.size, 0, none⟩) (m + d) n) (m + d) (pre c f m ++ pre c (f + m) d)) (hg : wr.grownBy w' (some w.heap.size)) : AllS w w' c f n (m + d) :=
  ⟨by rw [pre_app] at hr; exact hr, grownBy_G h.g hg (Nat.le_refl _)⟩

theorem far_cell {w w' : World} {S b i : Nat} (hg : w.grownBy w' (some S)) (h1 : b < S) (h2 : b < w.heap.size) : w'.cell? ⟨b, i, none⟩ = w.cell? ⟨b, i, none⟩ :=
  World.cell?_of_block (hg.block b h2 (by simp; omega))

set_option maxHeartbeats 1000000 in
theorem all_core (w : World) (q f n : Nat) (bs : List Nat) (c : Nat → Int) (h : Hid (QAt w q f n bs c)) (hn : n ≤ 1000000) :
    Calls Try.prog 11 #[.pointer (some ⟨q, 0, none⟩)] w fun e w' => e = .returned (.slice (some ⟨w.heap.size, 0, none⟩) n n) ∧ AllS w w' c f n n := by
  obtain ⟨i0, hi0, hz0, hz1, hz2⟩ := info_parts info_int64
  have c0 := (unhide h).c0
  have c2 := (unhide h).c2
  have c3 := (unhide h).c3
  have hf16 := (unhide h).f16
  have hq := (unhide h).lt
  have hmk := mk_all n hn w
  have A0 : Hid (AllS w (w.alloc (.cells (madeCells #[.int .i64 0] n) 2)) c f n 0) := hide ⟨World.ownsRow_made w _ n (Nat.le_refl _) (by unfold maxLen; omega) (by simp [madeCells]), G.alloc _ _⟩
  generalize hp : List.head? bs = p0 at c0
  go_enter Try.func11, Try.ntmps11
  go_wp2_with fail
  go_loopw [3, 4, 5] (fun a fr b wr => ∃ k m t : Nat, k ≤ bs.length ∧ Hid (m = min n (k * 16 - f)) ∧ Hid (t = f - k * 16) ∧ a = .slice (some ⟨w.heap.size, 0, none⟩) m n ∧ fr = .int .i64 t ∧ b = .pointer (bs[k]?.map bp) ∧ Hid (AllS w wr c f n m)) (fun a _ _ _ => n - slLen a)
  case atStart => exact ⟨0, 0, f, Nat.zero_le _, hide (by omega), hide (by omega), rfl, rfl, by rw [← hp, List.head?_eq_getElem?], A0⟩
  case round =>
    obtain ⟨k, m, t, hk, hm, ht, rfl, rfl, rfl, R⟩ := hrel
    clear A0 hmk c0 c2 c3
    by_cases hkb : k = bs.length
    · have hnone : bs[k]?.map bp = none := by rw [List.getElem?_eq_none (by omega)]; rfl
      rw [hnone]
      have hmn : m = n := by have := (unhide h).le; have := unhide hm; omega
      subst hmn
      go_wp2_with fail
      go_ret
      exact ⟨rfl, unhide R⟩
    · obtain ⟨b, hb⟩ : ∃ b, bs[k]? = some b := ⟨bs[k]'(by omega), List.getElem?_eq_getElem (by omega)⟩
      have hval : bs[k]?.map bp = some ⟨b, 0, none⟩ := by rw [hb]; rfl
      rw [hval]
      have Q := (unhide h).grown (unhide R).g
      have c3 := Q.c3
      have hB := Q.bk k b hb
      have hle := Q.le
      have hge := Q.ge
      have hm' := unhide hm
      have ht' := unhide ht
      have ht16 : t < 16 := by omega
      have hn0 : 0 < n := by
        rcases Nat.eq_zero_or_pos n with e | e
        · have := Q.e0 e; omega
        · exact e
      have hmn : m < n := by omega
      have hpos : f + m = k * 16 + t := by omega
      -- what is taken from this block
      have key : ∀ d, m + d ≤ n → t + d ≤ 16 → Hid ((pre c (f + m) d).length = d * 1) ∧ Hid (∀ (j : Nat) u, (pre c (f + m) d)[j]? = some u → wr.cell? ((⟨b, t, none⟩ : Addr).add j) = some u) ∧ Hid (∀ u ∈ pre c (f + m) d, u.oneCell' = true) := by
        intro d _ hd
        refine ⟨hide (by rw [pre_len, Nat.mul_one]), hide fun j u hj => ?_, hide (pre_one _ _ _)⟩
        have hjd : j < d := by have := (List.getElem?_eq_some_iff.1 hj).1; rw [pre_len] at this; exact this
        rw [pre_get hjd] at hj
        have := hB.a (t + j) (by omega)
        rw [Addr.add_lit, this, ← hj, hpos]
        simp [Nat.add_assoc]
      clear hm' ht' hle hge hpos
      have hqs : b < wr.heap.size := hB.lt
      have hqq : q < wr.heap.size := Q.lt
      have hnx := hB.nx
      generalize hpv : bs[k + 1]?.map bp = pv at hnx
      clear Q
      replace hB := hide hB
      have hbw : b < w.heap.size := (unhide h).ltb b (List.mem_of_getElem? hb)
      have hlen := (unhide h).le
      have hlen2 := (unhide h).ge
      by_cases hfull : t + (n - m) ≤ 16
      · skip
        obtain ⟨K1, K2, K3⟩ := key (n - m) (by omega) (by omega)
        have hsl := sl_arr wr b t ((t : Int) + (n : Int) - (m : Int)) ht16 (by omega) (by omega)
        have hln : (((t : Int) + (n : Int) - (m : Int))).toNat - t = n - m := by omega
        rw [hln] at hsl
        clear key hln
        go_wp2_with (at_builtin; refine wpList_append_own_spare _ rfl (.tmp 36) (.tmp 42) 28 rfl w.heap.size 2 i0 1 Try.underlying28 hi0 hz1 w.heap.size m n (pre c f m) rfl (unhide R).row ⟨b, t, none⟩ (n - m) (16 - t) (pre c (f + m) (n - m)) rfl (unhide K1) (unhide K2) (unhide K3) (by omega) ?_; intro w7 hr8 hg8; have hnx7 : w7.cell? ⟨b, 16, none⟩ = some (.pointer pv) := (far_cell hg8 hbw hqs).trans hnx; have R7 := hide ((unhide R).app hr8 hg8); clear hr8 hg8)
        go_roundw
        case rel => exact ⟨k + 1, m + (n - m), 0, by omega, hide (by have := unhide hm; have := unhide ht; omega), hide (by have := unhide ht; omega), rfl, rfl, by rw [hpv], R7⟩
        case measure => simp [slLen]; omega
      · have hfull' : (16 : Int) < (t : Int) + (n : Int) - (m : Int) := by omega
        obtain ⟨K1, K2, K3⟩ := key (16 - t) (by omega) (by omega)
        have hsl := sl_arr wr b t (16 : Int) ht16 (by omega) (by omega)
        have hln : (16 : Int).toNat - t = 16 - t := by omega
        rw [hln] at hsl
        clear key hln
        go_wp2_with (at_builtin; refine wpList_append_own_spare _ rfl (.tmp 36) (.tmp 42) 28 rfl w.heap.size 2 i0 1 Try.underlying28 hi0 hz1 w.heap.size m n (pre c f m) rfl (unhide R).row ⟨b, t, none⟩ (16 - t) (16 - t) (pre c (f + m) (16 - t)) rfl (unhide K1) (unhide K2) (unhide K3) (by omega) ?_; intro w7 hr8 hg8; have hnx7 : w7.cell? ⟨b, 16, none⟩ = some (.pointer pv) := (far_cell hg8 hbw hqs).trans hnx; have R7 := hide ((unhide R).app hr8 hg8); clear hr8 hg8)
        go_roundw
        case rel => exact ⟨k + 1, m + (16 - t), 0, by omega, hide (by have := unhide hm; have := unhide ht; omega), hide (by have := unhide ht; omega), rfl, rfl, by rw [hpv], R7⟩
        case measure => simp [slLen]; omega

/-- The numbers xs as cells. -/
def cellsOf (xs : List Int) : List Value := xs.map fun x => .int .i64 x
theorem pre_cells {c : Nat → Int} {f : Nat} {xs : List Int} (h : ∀ i x, xs[i]? = some x → c (f + i) = x) : pre c f xs.length = cellsOf xs := by
  apply List.ext_getElem?
  intro i
  unfold cellsOf
  rw [List.getElem?_map]
  rcases Nat.lt_or_ge i xs.length with e | e
  · rw [pre_get e, List.getElem?_eq_getElem e, h i _ (List.getElem?_eq_getElem e)]; rfl
  · rw [List.getElem?_eq_none (by rw [pre_len]; exact e), List.getElem?_eq_none e]; rfl

theorem q_all {w : World} {q : Nat} {bs : List Nat} {xs : List Int} (h : QL w q bs xs) (hn : xs.length ≤ 1000000) :
    Calls Try.prog 11 #[.pointer (some ⟨q, 0, none⟩)] w fun e w' => ∃ g, e = .returned (.slice (some ⟨g, 0, none⟩) xs.length xs.length) ∧ w'.ownsRow w.heap.size 2 1 (.slice (some ⟨g, 0, none⟩) xs.length xs.length) xs.length (cellsOf xs) ∧ G w w' := by
  obtain ⟨f, c, h1, h2⟩ := h
  refine (all_core w q f xs.length bs c (hide h1) hn).mono ?_
  rintro e w' ⟨rfl, r, g⟩
  rw [pre_cells h2] at r
  exact ⟨_, rfl, r, g⟩
end Go.Proofs.Ytacgfljhnlbbgaa
