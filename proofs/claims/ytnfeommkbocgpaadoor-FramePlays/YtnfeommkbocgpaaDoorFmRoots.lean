/- mapOf, Roots of package frame. -/
import Derived.Test.YtnfeommkbocgpaaDoorFmTop
namespace Go.Proofs.YtnfeommkbocgpaaDoor
open Go.RowKit Go.Maps Go.ChangeShapes Go.WideShapes Go.ChangeAt Go.Deep

/-- The map where a frame stands. -/
def mpP (m : Md) (fn pc : Int) : Nat := if pc < 0 then 0 else (((fmAt m fn).getD noFm).ms[pc.toNat]?).getD 0
set_option maxHeartbeats 2000000 in
theorem mp_core (w : World) (mv : Value) (fn pc : Int) (F : Fn) (ok : Bool) (M : Nat) (sb n sc : Nat)
    (hmv : ∃ (v0 v1 v2 v3 : Option Addr × Nat × Nat) (so : Option Addr) (sl sc : Nat) (n : Int), mv = .agg #[.slice v0.1 v0.2.1 v0.2.2, .slice v1.1 v1.2.1 v1.2.2, .slice v2.1 v2.2.1 v2.2.2, .slice v3.1 v3.2.1 v3.2.2, .slice so sl sc, .int .i64 n])
    (CF : Hid (∀ x, G w x → Calls Tryd.prog 25 #[mv, .int .i64 fn] x fun e w' => ∃ (ko : Option Addr) (kc : Nat) (io : Option Addr) (ic : Nat) (mo : Option Addr) (mc : Nat), e = .returned (.tuple #[agF F ko kc io ic mo mc, .bool ok]) ∧ RowAt elU w mo F.ms.length mc F.ms ∧ G x w'))
    (hM : M = if pc < 0 then 0 else (F.ms[pc.toNat]?).getD 0) :
    Calls Tryd.prog 33 #[mv, agFr fn pc sb n sc] w fun e w' => e = .returned (.int .u64 (M : Int)) ∧ G w w' := by
  obtain ⟨⟨v0a, v0b, v0c⟩, ⟨v1a, v1b, v1c⟩, ⟨v2a, v2b, v2c⟩, ⟨v3a, v3b, v3c⟩, so, sl, mc, mn, rfl⟩ := hmv
  simp only at CF ⊢
  obtain ⟨fp, fc, fs, fr, ks, is, ms⟩ := F
  unfold agF at CF
  unfold agFr
  simp only at CF hM
  obtain ⟨N, hN⟩ : ∃ N, N = ms.length := ⟨_, rfl⟩
  have H3 : Hid (pc < 0 ∨ (N : Int) ≤ pc → M = 0) := hide fun h => by
    rw [hM]
    split
    · rfl
    · rw [List.getElem?_eq_none (by omega)]; rfl
  have H4 : Hid (¬ pc < 0 → ¬ (N : Int) ≤ pc → ∃ (j : Nat), pc = j ∧ ms[j]? = some M ∧ (j : Int) < (N : Int)) := hide fun h1 h2 => by
    have hj : pc.toNat < ms.length := by omega
    refine ⟨pc.toNat, by omega, ?_, by omega⟩
    rw [hM, if_neg h1, List.getElem?_eq_getElem hj]
    rfl
  rw [← hN] at CF
  clear hM hN
  go_enter Tryd.func33, Tryd.ntmps33
  go_wp2_with fail
  refine (unhide CF _ ((G.alloc _ _).more _)).mono ?_
  rintro e w1 ⟨ko, kc, io, ic, mo, mc, rfl, hr, g1⟩
  have hs1 : w.heap.size + 1 < w1.heap.size := by have := g1.size; rw [World.size_alloc, World.size_alloc] at this; omega
  have d1 := g1.cell (x := ⟨w.heap.size + 1, 1, none⟩) (v := .int .i64 pc) (by simp [go_sem])
  have GG := hide (((G.alloc w _).more _).trans g1)
  replace hr := hide hr
  clear g1 CF
  by_cases h1 : pc < 0
  · have e := unhide H3 (Or.inl h1)
    subst e
    clear H3 H4 hr
    go_wp2_with fail
    go_ret
    exact ⟨rfl, (unhide GG).more _⟩
  · by_cases h2 : (N : Int) ≤ pc
    · have e := unhide H3 (Or.inr h2)
      subst e
      clear H3 H4 hr
      go_wp2_with fail
      go_ret
      exact ⟨rfl, (unhide GG).more _⟩
    · obtain ⟨j, rfl, hm, hj⟩ := unhide H4 (by omega) (by omega)
      obtain ⟨b, off, a, cs, rfl, ha, ecs, hcs⟩ := row_get (unhide hr) (show j < N by omega)
      obtain rfl : a = M := Option.some.inj (ha.symm.trans hm)
      have ecs : cs = [.int .u64 (a : Int)] := ecs
      subst ecs
      have c0 : w1.cell? ⟨b, off + j, none⟩ = some (.int .u64 (a : Int)) := by
        have := hcs w1 (unhide GG) 0 _ rfl
        simpa [elU] using this
      have hb : b < w1.heap.size := World.block_lt_of_cell? _ _ c0
      clear H3 H4 hr ha hm hcs
      go_wp2_with fail
      go_ret
      exact ⟨rfl, (unhide GG).more _⟩
theorem mp_any {w : World} {mv : Value} {m : Md} (hm : ModAt w mv m) (mf : ∃ (v0 v1 v2 v3 : Option Addr × Nat × Nat) (so : Option Addr) (sl sc : Nat) (n : Int), mv = .agg #[.slice v0.1 v0.2.1 v0.2.2, .slice v1.1 v1.2.1 v1.2.2, .slice v2.1 v2.2.1 v2.2.2, .slice v3.1 v3.2.1 v3.2.2, .slice so sl sc, .int .i64 n]) (fn pc : Int) (sb n sc : Nat) : Calls Tryd.prog 33 #[mv, agFr fn pc sb n sc] w fun e w' => e = .returned (.int .u64 (mpP m fn pc : Int)) ∧ G w w' :=
  mp_core w mv fn pc ((fmAt m fn).getD noFm) (fmAt m fn).isSome (mpP m fn pc) sb n sc mf (hide fun x g => (fu_any w x g mv m hm fn).mono (by
    rintro e w' ⟨ko, kc, io, ic, mo, mc, rfl, _, h1, h2⟩
    exact ⟨ko, kc, io, ic, mo, mc, rfl, h1, h2⟩)) rfl
theorem bitx_eq (x i : Nat) (hx : x < 18446744073709551616) : (bits .and .u64 ((x : Int) / 2 ^ i) 1 == 1) = x.testBit i := by
  have e : (x : Int) / 2 ^ i = ((x / 2 ^ i : Nat) : Int) := by simp
  have h3 := Nat.div_le_self x (2 ^ i)
  have a1 : bits .and .u64 ((x / 2 ^ i : Nat) : Int) 1 = ((x / 2 ^ i % 2 : Nat) : Int) := by
    have := u64_and_nat (x / 2 ^ i) 1 (by omega) (by decide)
    rw [Nat.and_one_is_mod] at this
    exact this
  rw [e, a1]
  rw [Nat.testBit_eq_decide_div_mod_eq]
  rw [Bool.eq_iff_iff]
  simp
  omega
/-- The roots of one frame's first k slots; of the first k frames. -/
def rt1 (M k : Nat) (x : Int) : List Int := if M.testBit k = true ∧ x ≠ 0 then [x] else []
def rtK (M : Nat) (sl : List Int) : Nat → List Int
  | 0 => []
  | k + 1 => rtK M sl k ++ rt1 M k ((sl[k]?).getD 0)
def rtL (m : Md) (L : List (Int × Int × List Int)) : Nat → List Int
  | 0 => []
  | k + 1 => rtL m L k ++ (match L[k]? with
    | some f => rtK (mpP m f.1 f.2.1) f.2.2 f.2.2.length
    | none => [])
theorem rtK_len (M : Nat) (sl : List Int) : ∀ k, (rtK M sl k).length ≤ k
  | 0 => Nat.le_refl _
  | k + 1 => by
    have := rtK_len M sl k
    unfold rtK rt1
    rw [List.length_append]
    split <;> simp <;> omega
theorem rtL_len (m : Md) (L : List (Int × Int × List Int)) (hs : ∀ f ∈ L, f.2.2.length ≤ 1000) : ∀ k, (rtL m L k).length ≤ k * 1000
  | 0 => by simp [rtL]
  | k + 1 => by
    have h1 := rtL_len m L hs k
    unfold rtL
    rw [List.length_append, Nat.succ_mul]
    refine Nat.add_le_add h1 ?_
    cases h : L[k]? with
    | none => exact Nat.zero_le _
    | some f => exact Nat.le_trans (rtK_len (mpP m f.1 f.2.1) f.2.2 f.2.2.length) (hs f (List.mem_of_getElem? h))
/-- A row of int64s of the call's own. -/
abbrev Ow64 (w : World) (B : Nat) (v : Value) (l : List Int) : Prop := w.ownsRow B 2 1 v l.length (l.map (Value.int .i64))
theorem ow64_app1 {w : World} {B : Nat} {v : Value} {l : List Int} (a : Int) (h : Ow64 w B v l) (hB : B ≤ w.heap.size) (hn : l.length < 10000000) :
    ∃ v' w', (Builtin.append_ #[29, 29] 29 #[v, .slice (some ⟨w.heap.size, 0, none⟩) 1 1]).run Tryd.prog (w.alloc (.cells #[.int .i64 a] 2)) = .ok v' w' ∧ Ow64 w' B v' (l ++ [a]) ∧ Below B w w' := by
  obtain ⟨i, hi, hz, hs, hb⟩ := info_parts info_int64
  have ga := G.alloc w (.cells #[.int .i64 a] 2)
  have h2 : Ow64 (w.alloc (.cells #[.int .i64 a] 2)) B v l := own_kept h (fun b _ hb => ga.block b hb)
  obtain ⟨v', w', hrun, r1, r2, _, r4⟩ := run_append_own_at (P := Tryd.prog) (w.alloc (.cells #[.int .i64 a] 2)) B 29 29 2 i _ 1 8 Tryd.underlying29 hi hz hs hb rfl (by decide) v l.length _ h2 ⟨w.heap.size, 0, none⟩ 1 1 [.int .i64 a] rfl (fun j u hj => by
      rw [Addr.add_lit, cell_of_row _ _ _ _ _ _ (heap_alloc_new w _), Nat.zero_add]
      simpa using hj) (fun u hu => by simp at hu; subst hu; rfl) (by unfold maxLen; omega) (by omega) (Nat.le_trans hB ga.size)
  have hbo := own_blk h2
  refine ⟨v', w', hrun, ?_, Below.grown (Below.mono ga hB) r2 (Nat.le_trans hB ga.size) (fun q hq => hbo q hq)⟩
  show w'.ownsRow B 2 1 v' (l ++ [a]).length ((l ++ [a]).map (Value.int .i64))
  rw [List.length_append, List.map_append]
  exact r1
/-- The roots in the making. -/
def RoI (w : World) (l : List Int) (v : Value) (x : World) : Prop := Ow64 x w.heap.size v l ∧ G w x
theorem roI_app {w wr : World} {l : List Int} {v : Value} (h : RoI w l v wr) (a : Int) (hn : l.length < 10000000) :
    ∃ v' w', (Builtin.append_ #[29, 29] 29 #[v, .slice (some ⟨wr.heap.size, 0, none⟩) 1 1]).run Tryd.prog (wr.alloc (.cells #[.int .i64 a] 2)) = .ok v' w' ∧ RoI w (l ++ [a]) v' w' := by
  obtain ⟨v', w', r1, r2, r3⟩ := ow64_app1 a h.1 h.2.size hn
  exact ⟨v', w', r1, r2, ⟨r3.os.trans h.2.os, r3.tape.trans h.2.tape, r3.output.trans h.2.output, Nat.le_trans h.2.size r3.size, fun b hb => (r3.block b hb).trans (h.2.block b hb)⟩⟩
theorem RoI.g {w x y : World} {l : List Int} {v : Value} (h : RoI w l v x) (g : G x y) : RoI w l v y := ⟨own_kept h.1 (fun b _ hb => g.block b hb), h.2.trans g⟩
theorem modM {m : Md} (ho : ∀ f ∈ m.fn, ∀ x ∈ f.ms, oU x) (fn pc : Int) : mpP m fn pc < 18446744073709551616 := by
  unfold mpP
  split
  · decide
  · cases hq : (((fmAt m fn).getD noFm).ms[pc.toNat]?) with
    | none => decide
    | some x =>
      have hm := List.mem_of_getElem? hq
      cases hf : fmAt m fn with
      | none => rw [hf] at hm; cases hm
      | some f =>
        rw [hf] at hm
        unfold fmAt at hf
        split at hf
        · cases hf
        · exact ho f (List.mem_of_getElem? hf) x hm
theorem pf_get {L : List Fr} {k : Nat} {f : Fr} (h : L[k]? = some f) : (L.map (fun f : Fr => (f.fn, f.pc, f.sl)))[k]? = some (f.fn, f.pc, f.sl) := by rw [List.getElem?_map, h]; rfl
set_option maxHeartbeats 4000000 in
theorem s_roots {w : World} {B s : Nat} {v : Value} {L : List Fr} (h : SK w B s v L) (hL : L.length ≤ 1000) (hs : ∀ f ∈ L, f.sl.length ≤ 64) {mv : Value} {m : Md} (hm : ModAt w mv m) (mf : ∃ (v0 v1 v2 v3 : Option Addr × Nat × Nat) (so : Option Addr) (sl sc : Nat) (n : Int), mv = .agg #[.slice v0.1 v0.2.1 v0.2.2, .slice v1.1 v1.2.1 v1.2.2, .slice v2.1 v2.2.1 v2.2.2, .slice v3.1 v3.2.1 v3.2.2, .slice so sl sc, .int .i64 n]) (ho : ∀ f ∈ m.fn, ∀ x ∈ f.ms, oU x) :
    Calls Tryd.prog 23 #[.pointer (some ⟨s, 0, none⟩), mv] w fun e w' => ∃ v', e = .returned v' ∧ RoI w (rtL m (L.map (fun f : Fr => (f.fn, f.pc, f.sl))) L.length) v' w' := by
  obtain ⟨W1, hW1⟩ : ∃ W1, W1 = w.alloc (.cells mv.cells 33) := ⟨_, rfl⟩
  have gW : G w W1 := by rw [hW1]; exact G.alloc w _
  have FIN : Hid (∀ l v x, RoI W1 l v x → RoI w l v x) := hide fun l v x hx => by
    refine ⟨⟨hx.1.1, ?_⟩, gW.trans hx.2⟩
    rcases hx.1.2 with h' | ⟨g', cap', cur, h', hb2, hr⟩
    · exact Or.inl h'
    · exact Or.inr ⟨g', cap', cur, h', Nat.le_trans gW.size hb2, hr⟩
  replace h := h.g gW
  replace hm := hm.g gW
  obtain ⟨ao, c, rfl, hv⟩ := h.rk.v
  obtain ⟨P, hP⟩ : ∃ P, P = L.map (fun f : Fr => (f.fn, f.pc, f.sl)) := ⟨_, rfl⟩
  obtain ⟨n, hn⟩ : ∃ n, n = L.length := ⟨_, rfl⟩
  rw [← hn] at h hv
  rw [← hP, ← hn]
  have c0 := h.c0
  have hlt := h.lts
  have hrtl : ∀ k, k ≤ 1000 → (rtL m P k).length ≤ 1000000 := fun k hk => by
    have := rtL_len m P (fun f hf => by rw [hP] at hf; obtain ⟨g, hg, rfl⟩ := List.mem_map.1 hf; have := hs g hg; simp only; omega) k
    have : k * 1000 ≤ 1000 * 1000 := Nat.mul_le_mul_right _ hk
    omega
  have ST : Hid (RoI W1 (rtL m P 0) (.slice none 0 0) W1) := hide ⟨⟨rfl, Or.inl ⟨rfl, rfl⟩⟩, G.refl W1⟩
  have RD : Hid (∀ (k : Nat) (vb : Value) (wr : World), k < n → RoI W1 (rtL m P k) vb wr → ∃ (kb : Nat) (fn pc : Int) (sb sc N M : Nat) (sl : List Int), ao = some ⟨kb, 0, none⟩ ∧ wr.cell? ⟨kb, k * 3, none⟩ = some (.int .i64 fn) ∧ wr.cell? ⟨kb, k * 3 + 1, none⟩ = some (.int .i64 pc) ∧ wr.cell? ⟨kb, k * 3 + 2, none⟩ = some (.slice (some ⟨sb, 0, none⟩) N sc) ∧ N ≤ 64 ∧
      Hid (∀ o, Calls Tryd.prog 33 #[mv, .agg #[.int .i64 fn, .int .i64 pc, .slice (some ⟨sb, 0, none⟩) N sc]] (wr.alloc o) fun e w' => e = .returned (.int .u64 (M : Int)) ∧ Hid (G (wr.alloc o) w' ∧ RoI W1 (rtL m P k ++ rtK M sl 0) vb w')) ∧
      Hid (∀ (t : Nat) (vc : Value) (x : World), t < N → RoI W1 (rtL m P k ++ rtK M sl t) vc x → ∃ y, x.cell? ⟨sb, t, none⟩ = some (.int .i64 y) ∧ ((M.testBit t = true ∧ (y != 0) = true ∧ ∃ v' x', (Builtin.append_ #[29, 29] 29 #[vc, .slice (some ⟨x.heap.size, 0, none⟩) 1 1]).run Tryd.prog (x.alloc (.cells #[.int .i64 y] 2)) = .ok v' x' ∧ Hid (RoI W1 (rtL m P k ++ rtK M sl (t + 1)) v' x')) ∨ ((M.testBit t = false ∨ (y != 0) = false) ∧ Hid (RoI W1 (rtL m P k ++ rtK M sl (t + 1)) vc x)))) ∧
      Hid (∀ (vc : Value) (x : World), RoI W1 (rtL m P k ++ rtK M sl N) vc x → RoI W1 (rtL m P (k + 1)) vc x) ∧ (∀ t, (bits .and .u64 ((M : Int) / 2 ^ t) 1 == 1) = M.testBit t)) := hide fun k vb wr hk HW => by
    obtain ⟨kb, rfl⟩ := hv (by omega)
    have hkL : k < L.length := by omega
    have hf : L[k]? = some L[k] := List.getElem?_eq_getElem hkL
    have hfm : L[k] ∈ L := List.getElem_mem hkL
    have hrk := h.rk.g HW.2
    have hg := hrk.get hf
    have hsf := hs _ hfm
    have hPk : P[k]? = some (L[k].fn, L[k].pc, L[k].sl) := by rw [hP]; exact pf_get hf
    refine ⟨kb, _, _, _, _, _, mpP m L[k].fn L[k].pc, L[k].sl, rfl, hg.1, hg.2.1, hg.2.2, hsf, hide fun o => ?_, hide fun t vc x ht HX => ?_, hide fun vc x HX => ?_, fun t => bitx_eq _ t (modM ho _ _)⟩
    · refine (mp_any (hm.g (HW.2.more o)) mf L[k].fn L[k].pc L[k].sb L[k].sl.length L[k].sc).mono ?_
      rintro e w' ⟨rfl, g⟩
      exact ⟨rfl, hide ⟨g, by rw [rtK, List.append_nil]; exact HW.g ((G.alloc _ o).trans g)⟩⟩
    · have hyt : L[k].sl[t]? = some L[k].sl[t] := List.getElem?_eq_getElem ht
      have hrt : rtK (mpP m L[k].fn L[k].pc) L[k].sl (t + 1) = rtK (mpP m L[k].fn L[k].pc) L[k].sl t ++ rt1 (mpP m L[k].fn L[k].pc) t L[k].sl[t] := by rw [rtK, hyt]; rfl
      refine ⟨L[k].sl[t], (h.rk.g HX.2).slot hfm hyt, ?_⟩
      have hl1 := hrtl k (by omega)
      have hl2 := rtK_len (mpP m L[k].fn L[k].pc) L[k].sl t
      cases hb : (mpP m L[k].fn L[k].pc).testBit t
      · refine Or.inr ⟨Or.inl rfl, hide ?_⟩
        rw [hrt, rt1, if_neg (by rw [hb]; simp), List.append_nil]
        exact HX
      · by_cases hy : L[k].sl[t] = 0
        · refine Or.inr ⟨Or.inr (by simp [hy]), hide ?_⟩
          rw [hrt, rt1, if_neg (by simp [hy]), List.append_nil]
          exact HX
        · obtain ⟨v', x', q1, q2⟩ := roI_app HX L[k].sl[t] (by rw [List.length_append]; omega)
          refine Or.inl ⟨rfl, by simpa using hy, v', x', q1, hide ?_⟩
          rw [hrt, rt1, if_pos ⟨hb, hy⟩, ← List.append_assoc]
          exact q2
    · rw [rtL, hPk]
      exact HX
  obtain ⟨⟨v0a, v0b, v0c⟩, ⟨v1a, v1b, v1c⟩, ⟨v2a, v2b, v2c⟩, ⟨v3a, v3b, v3c⟩, so, sl0, mc, mn, rfl⟩ := mf
  simp only at RD ⊢
  have hn1 : n ≤ 1000 := by omega
  simp only [Value.cells] at hW1
  have b0 : ∀ x, G W1 x → x.cell? ⟨w.heap.size, 0, none⟩ = some (.slice v0a v0b v0c) ∧ x.cell? ⟨w.heap.size, 1, none⟩ = some (.slice v1a v1b v1c) ∧ x.cell? ⟨w.heap.size, 2, none⟩ = some (.slice v2a v2b v2c) ∧ x.cell? ⟨w.heap.size, 3, none⟩ = some (.slice v3a v3b v3c) ∧ x.cell? ⟨w.heap.size, 4, none⟩ = some (.slice so sl0 mc) ∧ x.cell? ⟨w.heap.size, 5, none⟩ = some (.int .i64 mn) ∧ w.heap.size < x.heap.size := fun x g => by
    have e : ∀ i v, W1.cell? ⟨w.heap.size, i, none⟩ = some v → x.cell? ⟨w.heap.size, i, none⟩ = some v := fun i v hv => g.cell hv
    refine ⟨e 0 _ ?_, e 1 _ ?_, e 2 _ ?_, e 3 _ ?_, e 4 _ ?_, e 5 _ ?_, ?_⟩
    all_goals first | (rw [hW1, cell_of_row _ _ _ _ _ _ (heap_alloc_new w _)]; rfl) | (have := g.size; rw [hW1, World.size_alloc] at this; omega)
  replace b0 := hide b0
  clear h hv hL hs hn hm ho hP hrtl gW
  go_enter Tryd.func23, Tryd.ntmps23
  go_upto_region 1 with fail
  rw [← hW1]
  clear hW1
  go_wp2_with fail
  go_loopw [5, 16] (fun b i wr => ∃ k : Nat, k ≤ n ∧ i = .int .i64 k ∧ Hid (RoI W1 (rtL m P k) b wr)) (fun _ i _ => n - (intOf i).toNat)
  case atStart => exact ⟨0, Nat.zero_le _, rfl, ST⟩
  case round =>
    obtain ⟨k, hk, rfl, HW⟩ := hrel
    by_cases hlt2 : k < n
    · obtain ⟨kb, fn, pc, sb, sc, N, M, sl, rfl, d0, d1, d2, hN, CM, RI, RE, hbit⟩ := unhide RD k _ wr hlt2 (unhide HW)
      obtain ⟨m0, m1, m2, m3, m4, m5, m6⟩ := unhide b0 wr (unhide HW).2
      have hkb : kb < wr.heap.size := World.block_lt_of_cell? _ _ d0
      clear HW ST
      go_wp2_with fail
      refine (unhide CM _).mono ?_
      rintro e w2 ⟨rfl, H2⟩
      have bx2 := (unhide H2).1.cell (x := ⟨wr.heap.size, 2, none⟩) (v := .slice (some ⟨sb, 0, none⟩) N sc) (by simp [go_sem])
      replace H2 := hide (unhide H2).2
      clear CM d0 d1 d2 m0 m1 m2 m3 m4 m5 m6 hkb
      go_wp2_with fail
      go_loopw [5, 26] (fun b i wr => ∃ t : Nat, t ≤ N ∧ i = .int .i64 t ∧ Hid (RoI W1 (rtL m P k ++ rtK M sl t) b wr)) (fun _ i _ => N - (intOf i).toNat)
      case atStart => exact ⟨0, Nat.zero_le _, rfl, H2⟩
      case round =>
        obtain ⟨t, ht, rfl, HT⟩ := hrel
        by_cases htl : t < N
        · obtain ⟨y, dy, hy⟩ := unhide RI t _ wr htl (unhide HT)
          have hb := hbit t
          clear hbit HT RI RE RD FIN
          rcases hy with ⟨h1, h2, v', x', hrun, HX⟩ | ⟨h1, HX⟩
          · rw [h1] at hb
            clear h1
            go_wp2_with (at_builtin; refine wpl_apr rfl (.tmp 40) (.tmp 42) 29 rfl _ _ rfl rfl _ _ hrun ?_)
            go_roundw
            case rel => exact ⟨t + 1, by omega, by go_num, HX⟩
            case measure => simp [intOf]; omega
          · cases hq : M.testBit t
            · rw [hq] at hb
              clear h1 hq
              go_wp2_with fail
              go_roundw
              case rel => exact ⟨t + 1, by omega, by go_num, HX⟩
              case measure => simp [intOf]; omega
            · have h2 : (y != 0) = false := by
                rcases h1 with h1 | h1
                · rw [hq] at h1; cases h1
                · exact h1
              rw [hq] at hb
              clear h1 hq
              go_wp2_with fail
              go_roundw
              case rel => exact ⟨t + 1, by omega, by go_num, HX⟩
              case measure => simp [intOf]; omega
        · obtain rfl : t = N := by omega
          have HX := hide (unhide RE _ wr (unhide HT))
          clear hbit HT RI RE RD FIN
          go_wp2_with fail
          go_roundw
          case rel => exact ⟨k + 1, by omega, by go_num, HX⟩
          case measure => simp [intOf]; omega
    · obtain rfl : k = n := by omega
      have K := hide (unhide FIN _ _ wr (unhide HW))
      clear HW FIN RD ST b0
      go_wp2_with fail
      refine bodyPost_ret (by simp [results, Tryd.results23, go_sem]; try rfl) rfl ?_
      exact ⟨_, rfl, unhide K⟩
end Go.Proofs.YtnfeommkbocgpaaDoor
