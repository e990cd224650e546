/- LiveWalks answers true. -/
import Derived.Test.YtpbeafgfhnlmbaaLiveLw2
namespace Go.Proofs.Ytpbeafgfhnlmbaa
set_option maxRecDepth 100000
open Go.RowKit Go.Maps Go.ChangeShapes Go.WideShapes Go.ChangeAt Go.Deep

theorem shr_clear (v : Nat) (a : Nat) (hv : v < 18446744073709551616) (hb : v.testBit a = false) : bits .and .u64 ((v : Int) / 2 ^ a) 1 = 0 := by
  have e : ((v : Int) / 2 ^ a) = ((v / 2 ^ a : Nat) : Int) := by simp
  rw [e]
  have hlt : v / 2 ^ a < 18446744073709551616 := Nat.lt_of_le_of_lt (Nat.div_le_self _ _) hv
  have := bits_and_u64_nat (v / 2 ^ a) 1 hlt (by decide)
  rw [show ((1 : Nat) : Int) = 1 from rfl] at this
  rw [this, Nat.and_one_is_mod]
  rw [Nat.testBit_eq_decide_div_mod_eq] at hb
  have hb := of_decide_eq_false hb
  have : v / 2 ^ a % 2 = 0 := by omega
  rw [this]
  rfl
theorem and_ffff (n : Int) : ∃ v : Nat, bits .and .i64 n 65535 = (v : Int) ∧ v ≤ 65535 := by
  have e : bits .and .i64 n 65535 = n % 65536 := i64_and65535 n
  exact ⟨(n % 65536).toNat, by rw [e]; omega, by omega⟩
/-- What is known on a walk: what may be read from here on, and was not written, was in the first set. -/
def WkI (st : Nat → Nat) (fr pc W : Nat) : Prop := ∀ s, s < 64 → (st pc).testBit s = true → W.testBit s = false → (st fr).testBit s = true
set_option maxHeartbeats 8000000 in
theorem walk_LiveWalks (w : World) (m : Md) (so : Option Addr) (sc : Nat) (go : Option Addr) (gc : Nat) (co : Option Addr) (cc : Nat) (ao : Option Addr) (ac : Nat) (fo : Option Addr) (fc : Nat) (f : Fn) (ko : Option Addr) (kc : Nat) (io : Option Addr) (ic : Nat) (mo : Option Addr) (mc : Nat) (tro : Option Addr) (nt tc : Nat) (TL : List Int) (frI : Int) (hM : ModR w m so sc go gc co cc ao ac fo fc) (oM : oMd m) (hlen : m.fn.length * 104 ≤ reachBytes) (rk : RowAt elB w ko f.ks.length kc f.ks) (ri : RowAt elIn w io f.is.length ic f.is) (rm : RowAt elU w mo f.ms.length mc f.ms) (oF : oFn f) (hT : RowAt elI w tro nt tc TL ∧ nt ≤ tc ∧ ∀ a ∈ TL, oI a) (ofr : oI frI) :
    Calls Try.prog 6 #[.agg #[.slice so m.sh.length sc, .slice go m.gl.length gc, .slice co m.co.length cc, .slice ao m.ca.length ac, .slice fo m.fn.length fc, .int .i64 m.main], .agg #[.int .i64 f.p, .int .i64 f.c, .int .i64 f.s, .int .i64 f.r, .slice ko f.ks.length kc, .slice io f.is.length ic, .slice mo f.ms.length mc], .slice tro nt tc, .int .i64 frI] w fun e w' => e = .returned (.bool true) ∧ G w w' := by
  obtain ⟨W0, hW0⟩ : ∃ W0, W0 = (w.alloc (.cells #[.slice so m.sh.length sc, .slice go m.gl.length gc, .slice co m.co.length cc, .slice ao m.ca.length ac, .slice fo m.fn.length fc, .int .i64 m.main] 31)).alloc (.cells #[.int .i64 f.p, .int .i64 f.c, .int .i64 f.s, .int .i64 f.r, .slice ko f.ks.length kc, .slice io f.is.length ic, .slice mo f.ms.length mc] 42) := ⟨_, rfl⟩
  have g0 : G w W0 := by rw [hW0]; exact ((G.refl w).more _).more _
  have m0 : W0.cell? ⟨w.heap.size, 0, none⟩ = some (.slice so m.sh.length sc) := by rw [hW0]; simp [go_sem]
  have m1 : W0.cell? ⟨w.heap.size, 1, none⟩ = some (.slice go m.gl.length gc) := by rw [hW0]; simp [go_sem]
  have m2 : W0.cell? ⟨w.heap.size, 2, none⟩ = some (.slice co m.co.length cc) := by rw [hW0]; simp [go_sem]
  have m3 : W0.cell? ⟨w.heap.size, 3, none⟩ = some (.slice ao m.ca.length ac) := by rw [hW0]; simp [go_sem]
  have m4 : W0.cell? ⟨w.heap.size, 4, none⟩ = some (.slice fo m.fn.length fc) := by rw [hW0]; simp [go_sem]
  have m5 : W0.cell? ⟨w.heap.size, 5, none⟩ = some (.int .i64 m.main) := by rw [hW0]; simp [go_sem]
  have f0 : W0.cell? ⟨w.heap.size + 1, 0, none⟩ = some (.int .i64 f.p) := by rw [hW0]; simp [go_sem]
  have f1 : W0.cell? ⟨w.heap.size + 1, 1, none⟩ = some (.int .i64 f.c) := by rw [hW0]; simp [go_sem]
  have f2 : W0.cell? ⟨w.heap.size + 1, 2, none⟩ = some (.int .i64 f.s) := by rw [hW0]; simp [go_sem]
  have f3 : W0.cell? ⟨w.heap.size + 1, 3, none⟩ = some (.int .i64 f.r) := by rw [hW0]; simp [go_sem]
  have f4 : W0.cell? ⟨w.heap.size + 1, 4, none⟩ = some (.slice ko f.ks.length kc) := by rw [hW0]; simp [go_sem]
  have f5 : W0.cell? ⟨w.heap.size + 1, 5, none⟩ = some (.slice io f.is.length ic) := by rw [hW0]; simp [go_sem]
  have f6 : W0.cell? ⟨w.heap.size + 1, 6, none⟩ = some (.slice mo f.ms.length mc) := by rw [hW0]; simp [go_sem]
  have fz : W0.frozen? ⟨w.heap.size, 4, none⟩ = false := by rw [hW0]; simp [go_sem]
  have AK := hide (awake_any W0)
  have PRE := hide (fun x1 g1 => law_pre w W0 m so sc go gc co cc ao ac fo fc f ko kc io ic mo mc hM rk ri rm hlen g0 m0 m1 m2 m3 m4 m5 f0 f1 f2 f3 f4 f5 f6 fz x1 g1)
  replace oM := hide oM
  replace oF := hide oF
  replace hT := hide hT
  replace ofr := hide ofr
  clear hM rk ri rm hlen fz
  go_enter Try.func6, Try.ntmps6
  go_upto_region 1 with fail
  rw [← hW0]
  clear hW0
  go_wp2_with fail
  refine (unhide AK).mono ?_
  rintro e x1 ⟨rfl, g1⟩
  obtain ⟨b, c', x2, hrun, k4, fk, LW⟩ := unhide PRE x1 g1
  replace LW := hide LW
  have e0 := g1.cell f0
  have e1 := g1.cell f1
  have e2 := g1.cell f2
  have e3 := g1.cell f3
  have e4 := g1.cell f4
  have e5 := g1.cell f5
  have e6 := g1.cell f6
  have d4 := (G.alloc x1 (.cells #[.int .i64 f.p, .int .i64 f.c, .int .i64 f.s, .int .i64 f.r, .slice ko f.ks.length kc, .slice io f.is.length ic, .slice mo f.ms.length mc] 42)).cell (g1.cell m4)
  clear AK PRE m0 m1 m2 m3 m4 m5 f0 f1 f2 f3 f4 f5 f6 g0 g1
  go_upto_region 4 with (at_builtin; refine wpl_run rfl (.tmp 21) (.tmp 23) 29 rfl _ _ rfl rfl _ _ hrun ?_; clear hrun)
  obtain ⟨X, hX⟩ : ∃ X, X = x2.setCell ⟨w.heap.size, 4, none⟩ (.slice (some ⟨b, 0, none⟩) (m.fn.length + 1) c') := ⟨_, rfl⟩
  rw [← hX] at LW ⊢
  have BB := hide (fun x g => (unhide LW).box x g)
  obtain ⟨bx0, bx1, bx2, bx3, bx4, bx5, bx6, bx7, bx8, bx9, bx10, bx11, bx12⟩ := unhide BB X (G.refl X)
  have CB := hide (lw_big (unhide LW))
  clear hX k4 fk e0 e1 e2 e3 e4 e5 e6 d4
  go_wp2_with fail
  refine (unhide CB).mono ?_
  rintro e y1 ⟨q, rfl, hq, gy1⟩
  have KW := hide ((unhide LW).g.trans gy1)
  clear CB bx0 bx1 bx2 bx3 bx4 bx5 bx6 bx7 bx8 bx9 bx10 bx11 bx12
  cases q
  rotate_left
  · clear hq gy1 LW BB
    go_wp2_with fail
    go_ret
    exact ⟨rfl, unhide KW⟩
  have sm := hq rfl
  obtain ⟨s1, s2, s3, s4⟩ := sm_bounds sm
  obtain ⟨bx0, bx1, bx2, bx3, bx4, bx5, bx6, bx7, bx8, bx9, bx10, bx11, bx12⟩ := unhide BB y1 gy1
  obtain ⟨n0, hn0⟩ : ∃ n0, n0 = f.is.length := ⟨_, rfl⟩
  by_cases h100 : 100 < nt
  · have h100i : (100 : Int) < (nt : Int) := by omega
    clear hq gy1 LW BB sm s1 s2 s3 s4 hn0
    go_wp2_with fail
    go_ret
    exact ⟨rfl, unhide KW⟩
  have h100i : ¬ (100 : Int) < (nt : Int) := by omega
  by_cases hf0 : frI < 0
  · clear hq gy1 LW BB sm s1 s2 s3 s4 hn0
    go_wp2_with fail
    go_ret
    exact ⟨rfl, unhide KW⟩
  by_cases hf1 : (f.is.length : Int) ≤ frI
  · clear hq gy1 LW BB sm s1 s2 s3 s4 hn0
    go_wp2_with fail
    go_ret
    exact ⟨rfl, unhide KW⟩
  obtain ⟨fr, rfl⟩ : ∃ fr : Nat, frI = fr := ⟨frI.toNat, by omega⟩
  have hfr : fr < n0 := by omega
  have C1 := hide (lw_sets (unhide LW) (unhide oM) (unhide oF) sm gy1)
  replace gy1 := hide gy1
  have hs4 := hide s4
  have hs2 := hide s2
  have hnt : Hid (nt ≤ 100) := hide (by omega)
  clear hq sm s1 s2 s3 s4
  go_wp2_with fail
  refine (unhide C1).mono ?_
  rintro e y3 ⟨st, sb, rfl, hU, hsb, gy2, hL⟩
  have G3 : G X y3 := (unhide gy1).trans gy2
  have hn2 : Hid (n0 ≤ 200) := hide (by rw [hn0]; exact unhide hs4)
  have UA : Hid (∀ k x, k < n0 → G y3 x → x.cell? ⟨sb, k, none⟩ = some (.int .u64 (st k : Int))) := hide fun k x hk g => ((hU.g g).c k (by omega)).1
  have SB : Hid (∀ k, k < n0 → st k < 18446744073709551616) := hide fun k hk => hL.bd k (by omega)
  have GI : Hid (∀ k, k < n0 → ∃ ib off op A B C D, io = some ⟨ib, off, none⟩ ∧ f.is[k]? = some ⟨op, A, B, C, D⟩ ∧ oI A ∧ ∀ x, G y3 x → x.cell? ⟨ib, off + k * 5, none⟩ = some (.int .i64 op) ∧ x.cell? ⟨ib, off + k * 5 + 1, none⟩ = some (.int .i64 A) ∧ x.cell? ⟨ib, off + k * 5 + 2, none⟩ = some (.int .i64 B) ∧ x.cell? ⟨ib, off + k * 5 + 3, none⟩ = some (.int .i64 C) ∧ x.cell? ⟨ib, off + k * 5 + 4, none⟩ = some (.int .i64 D)) := hide fun k hk => by
    obtain ⟨ib, off, i', cs, e, ha, ecs, hcs⟩ := row_get (unhide LW).ri (k := k) (by omega)
    obtain ⟨op, A, B, C, D⟩ := i'
    have ecs : cs = [.int .i64 op, .int .i64 A, .int .i64 B, .int .i64 C, .int .i64 D] := ecs
    subst ecs
    exact ⟨ib, off, op, A, B, C, D, e, ha, (oF_is (unhide oF) _ (List.mem_of_getElem? ha)).2.1, fun x g => ⟨hcs x (G3.trans g) 0 _ rfl, hcs x (G3.trans g) 1 _ rfl, hcs x (G3.trans g) 2 _ rfl, hcs x (G3.trans g) 3 _ rfl, hcs x (G3.trans g) 4 _ rfl⟩⟩
  have BB3 : Hid (∀ x, G y3 x → x.cell? ⟨w.heap.size, 0, none⟩ = some (.slice so m.sh.length sc) ∧ x.cell? ⟨w.heap.size, 1, none⟩ = some (.slice go m.gl.length gc) ∧ x.cell? ⟨w.heap.size, 2, none⟩ = some (.slice co m.co.length cc) ∧ x.cell? ⟨w.heap.size, 3, none⟩ = some (.slice ao m.ca.length ac) ∧ x.cell? ⟨w.heap.size, 4, none⟩ = some (.slice (some ⟨b, 0, none⟩) (m.fn.length + 1) c') ∧ x.cell? ⟨w.heap.size, 5, none⟩ = some (.int .i64 m.main) ∧ x.cell? ⟨w.heap.size + 1, 0, none⟩ = some (.int .i64 f.p) ∧ x.cell? ⟨w.heap.size + 1, 1, none⟩ = some (.int .i64 f.c) ∧ x.cell? ⟨w.heap.size + 1, 2, none⟩ = some (.int .i64 f.s) ∧ x.cell? ⟨w.heap.size + 1, 3, none⟩ = some (.int .i64 f.r) ∧ x.cell? ⟨w.heap.size + 1, 4, none⟩ = some (.slice ko f.ks.length kc) ∧ x.cell? ⟨w.heap.size + 1, 5, none⟩ = some (.slice io n0 ic) ∧ x.cell? ⟨w.heap.size + 1, 6, none⟩ = some (.slice mo f.ms.length mc)) := hide fun x g => by
    have := unhide BB x (G3.trans g)
    rw [← hn0] at this
    exact this
  have DONE : Hid (∀ x, G y3 x → G w x) := hide fun x g => (unhide LW).g.trans (G3.trans g)
  have RD : Hid (∀ x op A B C D, G y3 x → oI A → Calls Try.prog 9 #[.agg #[.slice so m.sh.length sc, .slice go m.gl.length gc, .slice co m.co.length cc, .slice ao m.ca.length ac, .slice (some ⟨b, 0, none⟩) (m.fn.length + 1) c', .int .i64 m.main], .agg #[.int .i64 op, .int .i64 A, .int .i64 B, .int .i64 C, .int .i64 D]] x (LTo x (rdP (md2 m f) ⟨op, A, B, C, D⟩))) := hide fun x op A B C D g oA => lw_reads (unhide LW) (by have := unhide hs2; omega) (G3.trans g) op A B C D oA
  have WR : Hid (∀ x op A B C D, Calls Try.prog 11 #[.agg #[.int .i64 op, .int .i64 A, .int .i64 B, .int .i64 C, .int .i64 D]] x (LTo x (wrP ⟨op, A, B, C, D⟩))) := hide fun x op A B C D => writes_any x ⟨op, A, B, C, D⟩
  have FO : Hid (∀ x pc, G y3 x → Calls Try.prog 19 #[.agg #[.slice so m.sh.length sc, .slice go m.gl.length gc, .slice co m.co.length cc, .slice ao m.ca.length ac, .slice (some ⟨b, 0, none⟩) (m.fn.length + 1) c', .int .i64 m.main], .agg #[.int .i64 f.p, .int .i64 f.c, .int .i64 f.s, .int .i64 f.r, .slice ko f.ks.length kc, .slice io n0 ic, .slice mo f.ms.length mc], .int .i64 pc] x (LTo x (flP (md2 m f) f pc))) := hide fun x pc g => by
    have := lw_follows (unhide LW) (unhide oF) (by have := unhide hs2; omega) (G3.trans g) pc
    rw [← hn0] at this
    exact this
  have RB : Hid (∀ k op A B C D a, k < n0 → f.is[k]? = some ⟨op, A, B, C, D⟩ → a ∈ rdP (md2 m f) ⟨op, A, B, C, D⟩ → 0 ≤ a → a < 64 → (st k).testBit a.toNat = true) := hide fun k op A B C D a hk hi ha h0 h1 => hL.cl.rd k ⟨op, A, B, C, D⟩ a.toNat hi (by omega) (by rw [Int.toNat_of_nonneg h0]; exact ha)
  have RL : Hid (∀ (k : Nat) op A B C D, f.is[k]? = some ⟨op, A, B, C, D⟩ → (rdP (md2 m f) ⟨op, A, B, C, D⟩).length ≤ 100000) := hide fun k op A B C D hi => rd_bound (unhide hs2) (unhide oF) hi
  have FX : Hid (∀ k op A B C D W (q : Int), k < n0 → f.is[k]? = some ⟨op, A, B, C, D⟩ → op ≠ 41 → q ∈ flP (md2 m f) f (k : Int) → WkI st fr k W → ∃ t : Nat, q = (t : Int) ∧ t < n0 ∧ WkI st fr t (W ||| mskP (wrP ⟨op, A, B, C, D⟩))) := hide fun k op A B C D W q hk hi hne hq hW => by
    have hfl := flP_lt _ _ _ _ hq
    obtain ⟨t, rfl⟩ : ∃ t : Nat, q = t := ⟨q.toNat, by omega⟩
    refine ⟨t, rfl, by omega, fun s hs hb hc => ?_⟩
    rw [Nat.testBit_or] at hc
    simp only [Bool.or_eq_false_iff] at hc
    refine hW s hs (hL.cl.go k ⟨op, A, B, C, D⟩ t s hi hne hq hb hs (fun hm => ?_)) hc.1
    have := (msk_bit (wrP ⟨op, A, B, C, D⟩) s).2 ⟨hs, hm⟩
    rw [hc.2] at this
    cases this
  have FL : Hid (∀ (k : Nat) op A B C D, f.is[k]? = some ⟨op, A, B, C, D⟩ → op ≠ 41 → (flP (md2 m f) f (k : Int)).length ≤ 2) := hide fun k op A B C D hi h41 => flP_len (md2 m f) f k ⟨op, A, B, C, D⟩ hi h41
  have FL2 : Hid (∀ k : Nat, (flP (md2 m f) f (k : Int)).length ≤ 100000) := hide fun k => by
    unfold flP
    split
    · simp
    · split
      · simp
      · rename_i i hi
        refine Nat.le_trans (plP_le _ _) ?_
        have := unhide hs4
        omega
  have TG : Hid (∀ k x, k < nt → G y3 x → ∃ (p q : Nat) (a : Int), tro = some ⟨p, q, none⟩ ∧ x.cell? ⟨p, q + k, none⟩ = some (.int .i64 a)) := hide fun k x hk g => by
    obtain ⟨p, q, a, cs, e, ha, ecs, hcs⟩ := row_get (unhide hT).1 hk
    have ecs : cs = [.int .i64 a] := ecs
    subst ecs
    refine ⟨p, q, a, e, ?_⟩
    have := hcs x ((unhide DONE) x g) 0 _ rfl
    simpa [elI] using this
  have INI : Hid (WkI st fr fr 0) := hide (fun s _ hb _ => hb)
  clear C1 bx0 bx1 bx2 bx3 bx4 bx5 bx6 bx7 bx8 bx9 bx10 bx11 bx12 gy2 hsb hL hU gy1 BB hs2 hs4 KW h100 hf0 hf1
  have hn3 : f.is.length = n0 := hn0.symm
  obtain ⟨bx0, bx1, bx2, bx3, bx4, bx5, bx6, bx7, bx8, bx9, bx10, bx11, bx12⟩ := unhide BB3 y3 (G.refl y3)
  rw [hn3]
  replace G3 := hide G3
  replace hn0 := hide hn0
  replace hn3 := hide hn3
  have hnn : ((n0 : Int) != (n0 : Int)) = false := by simp
  have hfri : (fr : Int) < (n0 : Int) := by omega
  go_wp2_with fail
  clear bx0 bx1 bx2 bx3 bx4 bx5 bx6 bx7 bx8 bx9 bx10 bx11 bx12
  go_loopw [10, 11, 12] (fun pv wv iv wx => ∃ k pc W : Nat, k ≤ nt ∧ pc < n0 ∧ iv = .int .i64 k ∧ pv = .int .i64 pc ∧ wv = .int .u64 (W : Int) ∧ Hid (W < 18446744073709551616 ∧ WkI st fr pc W ∧ G y3 wx)) (fun _ _ i _ => nt - (intOf i).toNat)
  case atStart => exact ⟨0, fr, 0, Nat.zero_le _, hfr, rfl, rfl, rfl, hide ⟨by decide, unhide INI, G.refl y3⟩⟩
  case round =>
    obtain ⟨k, pc, W, hk, hpc, rfl, rfl, rfl, HW⟩ := hrel
    have gw : Hid (G y3 wr) := hide (unhide HW).2.2
    by_cases hlt : k < nt
    rotate_left
    · have K := hide (unhide DONE wr (unhide gw))
      have hki : ¬ (k : Int) < (nt : Int) := by omega
      clear UA SB GI BB3 DONE RD WR FO RB RL FX FL FL2 TG
      go_wp2_with fail
      go_ret
      exact ⟨rfl, unhide K⟩
    · obtain ⟨ib, off, op, A, B, C, D, rfl, hins, oA, hcel⟩ := unhide GI pc hpc
      have hki : (k : Int) < (nt : Int) := by omega
      have hpi : (pc : Int) < (n0 : Int) := by omega
      have hkw : wrap64 ((k : Int) + 1) = (k : Int) + 1 := by have := unhide hnt; unfold wrap64; omega
      replace hcel := hide hcel
      replace hins := hide hins
      replace oA := hide oA
      go_upto_region 14 with fail
      have KP : Hid (∀ x, G y3 x → G y3 x ∧ x.cell? ⟨w.heap.size, 0, none⟩ = some (.slice so m.sh.length sc) ∧ x.cell? ⟨w.heap.size, 1, none⟩ = some (.slice go m.gl.length gc) ∧ x.cell? ⟨w.heap.size, 2, none⟩ = some (.slice co m.co.length cc) ∧ x.cell? ⟨w.heap.size, 3, none⟩ = some (.slice ao m.ca.length ac) ∧ x.cell? ⟨w.heap.size, 4, none⟩ = some (.slice (some ⟨b, 0, none⟩) (m.fn.length + 1) c') ∧ x.cell? ⟨w.heap.size, 5, none⟩ = some (.int .i64 m.main) ∧ x.cell? ⟨w.heap.size + 1, 5, none⟩ = some (.slice (some ⟨ib, off, none⟩) n0 ic) ∧ x.cell? ⟨ib, off + pc * 5, none⟩ = some (.int .i64 op) ∧ x.cell? ⟨ib, off + pc * 5 + 1, none⟩ = some (.int .i64 A) ∧ x.cell? ⟨ib, off + pc * 5 + 2, none⟩ = some (.int .i64 B) ∧ x.cell? ⟨ib, off + pc * 5 + 3, none⟩ = some (.int .i64 C) ∧ x.cell? ⟨ib, off + pc * 5 + 4, none⟩ = some (.int .i64 D)) := hide fun x g => by
        have z1 := unhide BB3 x g
        have z2 := unhide hcel x g
        exact ⟨g, z1.1, z1.2.1, z1.2.2.1, z1.2.2.2.1, z1.2.2.2.2.1, z1.2.2.2.2.2.1, z1.2.2.2.2.2.2.2.2.2.2.2.1, z2⟩
      have gd : Hid (G y3 wr.drew) := hide ((unhide gw).drew)
      refine wp_region_noPanic ?_
      refine wp_region_held_drew (S := fun x => G y3 x ∧ x.cell? ⟨w.heap.size, 0, none⟩ = some (.slice so m.sh.length sc) ∧ x.cell? ⟨w.heap.size, 1, none⟩ = some (.slice go m.gl.length gc) ∧ x.cell? ⟨w.heap.size, 2, none⟩ = some (.slice co m.co.length cc) ∧ x.cell? ⟨w.heap.size, 3, none⟩ = some (.slice ao m.ca.length ac) ∧ x.cell? ⟨w.heap.size, 4, none⟩ = some (.slice (some ⟨b, 0, none⟩) (m.fn.length + 1) c') ∧ x.cell? ⟨w.heap.size, 5, none⟩ = some (.int .i64 m.main) ∧ x.cell? ⟨w.heap.size + 1, 5, none⟩ = some (.slice (some ⟨ib, off, none⟩) n0 ic) ∧ x.cell? ⟨ib, off + pc * 5, none⟩ = some (.int .i64 op) ∧ x.cell? ⟨ib, off + pc * 5 + 1, none⟩ = some (.int .i64 A) ∧ x.cell? ⟨ib, off + pc * 5 + 2, none⟩ = some (.int .i64 B) ∧ x.cell? ⟨ib, off + pc * 5 + 3, none⟩ = some (.int .i64 C) ∧ x.cell? ⟨ib, off + pc * 5 + 4, none⟩ = some (.int .i64 D)) (by kernel_rfl) (unhide KP _ (unhide gd)) (fun hHeld => ?_)
      obtain ⟨y4, hy4⟩ : ∃ y, y = wr.drew := ⟨_, rfl⟩
      rw [← hy4] at hHeld ⊢
      clear hy4 gd gw
      refine wpAnyH_take (i := 0) (v := .agg #[.slice so m.sh.length sc, .slice go m.gl.length gc, .slice co m.co.length cc, .slice ao m.ca.length ac, .slice (some ⟨b, 0, none⟩) (m.fn.length + 1) c', .int .i64 m.main]) rfl (by kernel_rfl) (by kernel_rfl) (by kernel_rfl) (fun _ _ _ h => h) (Or.inl ⟨by rfl, fun w hSw => by obtain ⟨t0, t1, t2, t3, t4, t5, t6, t7, t8, t9, t10, t11, t12⟩ := hSw; go_simp⟩) (by assumption) ?_
      try simp only [Act.put, List.getElem_toArray, List.getElem_cons_zero, List.setIfInBounds_toArray, List.set_cons_zero, List.set_cons_succ]
      refine wpAnyH_take (i := 1) (v := .pointer (some ⟨w.heap.size + 1, 5, none⟩)) rfl (by kernel_rfl) (by kernel_rfl) (by kernel_rfl) (fun _ _ _ h => h) (Or.inl ⟨by rfl, fun w hSw => by obtain ⟨t0, t1, t2, t3, t4, t5, t6, t7, t8, t9, t10, t11, t12⟩ := hSw; go_simp⟩) (by assumption) ?_
      try simp only [Act.put, List.getElem_toArray, List.getElem_cons_succ, List.getElem_cons_zero, List.setIfInBounds_toArray, List.set_cons_zero, List.set_cons_succ]
      refine wpAnyH_take (i := 2) (v := .slice (some ⟨ib, off, none⟩) n0 ic) rfl (by kernel_rfl) (by kernel_rfl) (by kernel_rfl) (fun _ _ _ h => h) (Or.inl ⟨by rfl, fun w hSw => by obtain ⟨t0, t1, t2, t3, t4, t5, t6, t7, t8, t9, t10, t11, t12⟩ := hSw; go_simp⟩) (by assumption) ?_
      try simp only [Act.put, List.getElem_toArray, List.getElem_cons_succ, List.getElem_cons_zero, List.setIfInBounds_toArray, List.set_cons_zero, List.set_cons_succ]
      refine wpAnyH_take (i := 3) (v := .int .i64 (pc : Int)) rfl (by kernel_rfl) (by kernel_rfl) (by kernel_rfl) (fun _ _ _ h => h) (Or.inl ⟨by rfl, fun w hSw => by obtain ⟨t0, t1, t2, t3, t4, t5, t6, t7, t8, t9, t10, t11, t12⟩ := hSw; go_simp⟩) (by assumption) ?_
      try simp only [Act.put, List.getElem_toArray, List.getElem_cons_succ, List.getElem_cons_zero, List.setIfInBounds_toArray, List.set_cons_zero, List.set_cons_succ]
      refine wpAnyH_take (i := 4) (v := .pointer (some ⟨ib, off + pc * 5, none⟩)) rfl (by kernel_rfl) (by kernel_rfl) (by kernel_rfl) (fun _ _ _ h => h) (Or.inl ⟨by rfl, fun w hSw => by obtain ⟨t0, t1, t2, t3, t4, t5, t6, t7, t8, t9, t10, t11, t12⟩ := hSw; go_simp⟩) (by assumption) ?_
      try simp only [Act.put, List.getElem_toArray, List.getElem_cons_succ, List.getElem_cons_zero, List.setIfInBounds_toArray, List.set_cons_zero, List.set_cons_succ]
      refine wpAnyH_take (i := 5) (v := .agg #[.int .i64 op, .int .i64 A, .int .i64 B, .int .i64 C, .int .i64 D]) rfl (by kernel_rfl) (by kernel_rfl) (by kernel_rfl) (fun _ _ _ h => h) (Or.inl ⟨by rfl, fun w hSw => by obtain ⟨t0, t1, t2, t3, t4, t5, t6, t7, t8, t9, t10, t11, t12⟩ := hSw; go_simp⟩) (by assumption) ?_
      try simp only [Act.put, List.getElem_toArray, List.getElem_cons_succ, List.getElem_cons_zero, List.setIfInBounds_toArray, List.set_cons_zero, List.set_cons_succ]
      refine wpAnyH_ready (rs := [6]) (by kernel_rfl) (by simp) ?_
      refine AllReadyH.cons rfl (fun K hK => ?_) AllReadyH.nil
      go_simp
      refine (unhide RD y4 op A B C D hHeld.1 (unhide oA)).mono ?_
      rintro e y5 ⟨rv, rfl, hL1, hg⟩
      obtain ⟨ro, rc, hrv, _, hget⟩ := hL1.get
      obtain ⟨rl, hrl⟩ : ∃ rl, rl = (rdP (md2 m f) ⟨op, A, B, C, D⟩).length := ⟨_, rfl⟩
      have hrb : Hid (rl ≤ 100000) := hide (by rw [hrl]; exact unhide RL pc op A B C D (unhide hins))
      obtain ⟨SF, hSF⟩ : ∃ SF, SF = st fr := ⟨_, rfl⟩
      have sf0 : Hid (SF < 18446744073709551616) := hide (by rw [hSF]; exact unhide SB fr hfr)
      have RG : Hid (∀ j x, j < rl → G y5 x → ∃ (p q : Nat) (a : Int), ro = some ⟨p, q, none⟩ ∧ x.cell? ⟨p, q + j, none⟩ = some (.int .i64 a) ∧ (0 ≤ a → a < 64 → W.testBit a.toNat = false → SF.testBit a.toNat = true)) := hide fun j x hj g => by
        obtain ⟨p, q, a, e1, e2, e3⟩ := hget j (by omega)
        refine ⟨p, q, a, e1, e3 x g, fun h0 h1 hc => ?_⟩
        rw [hSF]
        exact (unhide HW).2.1 a.toNat (by omega) (unhide RB pc op A B C D a hpc (unhide hins) (List.mem_of_getElem? e2) h0 h1) hc
      rw [← hrl] at hrv
      subst hrv
      clear hrl hget hL1
      go_wp2_with fail
      have gy5 := hHeld.1.trans hg
      refine hK.out _ _ (unhide KP _ gy5) (fun hH1 => ?_)
      clear hK K
      try simp only [Act.put, List.getElem_toArray, List.getElem_cons_succ, List.getElem_cons_zero, List.setIfInBounds_toArray, List.set_cons_zero, List.set_cons_succ]
      refine wpAnyH_take (i := 7) (v := .slice ro rl rc) rfl (by kernel_rfl) (by kernel_rfl) (by kernel_rfl) (fun _ _ _ h => h) (Or.inl ⟨by rfl, fun w hSw => by obtain ⟨t0, t1, t2, t3, t4, t5, t6, t7, t8, t9, t10, t11, t12⟩ := hSw; go_simp⟩) (by assumption) ?_
      try simp only [Act.put, List.getElem_toArray, List.getElem_cons_succ, List.getElem_cons_zero, List.setIfInBounds_toArray, List.set_cons_zero, List.set_cons_succ]
      refine wpAnyH_done (by kernel_rfl) (NoPanic.normal ?_) _
      replace gy5 := hide gy5
      replace hSF := hide hSF
      clear hHeld hg hH1
      go_wp2_with fail
      go_loopw [14] (fun i wx => ∃ j : Nat, j ≤ rl ∧ i = .int .i64 j ∧ Hid (G y5 wx)) (fun i _ => rl - (intOf i).toNat)
      case atStart => exact ⟨0, Nat.zero_le _, rfl, hide (G.refl y5)⟩
      case round =>
        obtain ⟨j, hj, rfl, gv⟩ := hrel
        by_cases hjl : j < rl
        · obtain ⟨pb, po, a, rfl, ca, hbit⟩ := unhide RG j wr hjl (unhide gv)
          have hji : (j : Int) < (rl : Int) := by omega
          have hjw : wrap64 ((j : Int) + 1) = (j : Int) + 1 := by have := unhide hrb; unfold wrap64; omega
          have u0 := unhide UA fr wr hfr ((unhide gy5).trans (unhide gv))
          rw [← unhide hSF] at u0
          have GN : Hid (∀ q, G y5 (wr.drewN q)) := hide (fun q => (unhide gv).trans (G.drewN wr q))
          have hWb := (unhide HW).1
          replace hbit := hide hbit
          clear KP UA SB GI BB3 DONE RD WR FO RB RL FX RG gv FL FL2 TG
          by_cases h0 : 0 ≤ a
          · by_cases h1 : a < 64
            · obtain ⟨an, rfl⟩ : ∃ an : Nat, a = an := ⟨a.toNat, by omega⟩
              have hsb := unhide hbit h0 h1
              rw [Int.toNat_natCast] at hsb
              have hwu : IntKind.u64.wrap (an : Int) = (an : Int) := by rw [wrapU]; omega
              have hmin : min an 64 = an := by omega
              have hge : decide ((0 : Int) ≤ (an : Int)) = true := decide_eq_true h0
              have hlt64 : decide ((an : Int) < 64) = true := decide_eq_true h1
              cases hwb : W.testBit an
              · have hsh := shr_clear W an hWb hwb
                have hsh2 := shr_bit SF an (unhide sf0) (hsb hwb)
                clear hsb hwb hWb hbit
                go_upto_region 18 with fail
                go_quiet (fail)
                go_wp2_with fail
                go_roundw
                case rel => exact ⟨j + 1, hjl, by go_num, hide (unhide GN _)⟩
                case measure => exact dec_lt rl j hjl hjw
              · have hsh := shr_bit W an hWb hwb
                clear hsb hwb hWb hbit
                go_upto_region 18 with fail
                go_quiet (fail)
                go_wp2_with fail
                go_roundw
                case rel => exact ⟨j + 1, hjl, by go_num, hide (unhide GN _)⟩
                case measure => exact dec_lt rl j hjl hjw
            · clear hbit hWb
              go_upto_region 18 with fail
              go_quiet (fail)
              go_wp2_with fail
              go_roundw
              case rel => exact ⟨j + 1, hjl, by go_num, hide (unhide GN _)⟩
              case measure => exact dec_lt rl j hjl hjw
          · clear hbit hWb
            go_upto_region 18 with fail
            go_quiet (fail)
            go_wp2_with fail
            go_roundw
            case rel => exact ⟨j + 1, hjl, by go_num, hide (unhide GN _)⟩
            case measure => exact dec_lt rl j hjl hjw
        · obtain rfl : j = rl := by omega
          have gy6 : Hid (G y3 wr) := hide ((unhide gy5).trans (unhide gv))
          obtain ⟨i0, i1, i2, i3, i4⟩ := unhide hcel wr (unhide gy6)
          obtain ⟨bx0, bx1, bx2, bx3, bx4, bx5, bx6, bx7, bx8, bx9, bx10, bx11, bx12⟩ := unhide BB3 wr (unhide gy6)
          have C5 := hide (unhide WR wr op A B C D)
          obtain ⟨WL, hWL⟩ : ∃ WL, WL = wrP ⟨op, A, B, C, D⟩ := ⟨_, rfl⟩
          rw [← hWL] at C5
          have WB : Hid (WL.length ≤ 65 ∧ ∀ s ∈ WL, oI s) := hide (by rw [hWL]; have := wrP_ok ⟨op, A, B, C, D⟩ (oF_is (unhide oF) _ (List.mem_of_getElem? (unhide hins))); exact ⟨this.2, this.1⟩)
          have FX2 := hide (fun q h41 hq => unhide FX pc op A B C D W q hpc (unhide hins) h41 hq (unhide HW).2.1)
          rw [← hWL] at FX2
          have hWb : Hid (W < 18446744073709551616) := hide (unhide HW).1
          clear KP RG gv RB RL gy5 hrb hWL FX RD WR HW SB sf0 hSF
          go_wp2_with fail
          refine (unhide C5).mono ?_
          rintro e y7 ⟨lv, rfl, hL2, g7⟩
          obtain ⟨lo, lc, hlv, _, hget2⟩ := hL2.get
          obtain ⟨ll, hll⟩ : ∃ ll, ll = WL.length := ⟨_, rfl⟩
          have LG : Hid (∀ j x, j < ll → G y7 x → ∃ (p q : Nat) (a : Int), lo = some ⟨p, q, none⟩ ∧ x.cell? ⟨p, q + j, none⟩ = some (.int .i64 a) ∧ oI a ∧ WL[j]? = some a) := hide fun j x hj g => by
            obtain ⟨p, q, a, e1, e2, e3⟩ := hget2 j (by omega)
            exact ⟨p, q, a, e1, e3 x g, (unhide WB).2 a (List.mem_of_getElem? e2), e2⟩
          have LE : Hid (mskP (WL.take ll) = mskP WL) := hide (by rw [hll, List.take_of_length_le (Nat.le_refl _)])
          have hl6 : Hid (ll ≤ 65) := hide (by rw [hll]; exact (unhide WB).1)
          rw [← hll] at hlv
          subst hlv
          have gy7 : Hid (G y3 y7) := hide ((unhide gy6).trans g7)
          have WST : Hid (W = W ||| mskP (WL.take 0)) := hide (by show W = W ||| 0; rw [Nat.or_zero])
          clear hll hget2 hL2 C5 g7 WB i0 i1 i2 i3 i4 bx0 bx1 bx2 bx3 bx4 bx5 bx6 bx7 bx8 bx9 bx10 bx11 bx12
          go_wp2_with fail
          go_loopw [11, 16] (fun q i wx => ∃ j : Nat, j ≤ ll ∧ i = .int .i64 j ∧ q = .int .u64 ((W ||| mskP (WL.take j) : Nat) : Int) ∧ Hid (G y7 wx)) (fun _ i _ => ll - (intOf i).toNat)
          case atStart => exact ⟨0, Nat.zero_le _, rfl, by rw [← unhide WST], hide (G.refl y7)⟩
          case round =>
            obtain ⟨j, hj, rfl, rfl, gv⟩ := hrel
            by_cases hjl : j < ll
            · obtain ⟨pb, po, a, rfl, ca, oa, hwa⟩ := unhide LG j wr hjl (unhide gv)
              have hji : (j : Int) < (ll : Int) := by omega
              have hjw : wrap64 ((j : Int) + 1) = (j : Int) + 1 := by have := unhide hl6; unfold wrap64; omega
              have HO := hide (or_bit (W ||| mskP (WL.take j)) a (or_lt (unhide hWb) (msk_lt _)) oa)
              have HN : Hid (W ||| mskP (WL.take (j + 1)) = (W ||| mskP (WL.take j)) ||| bitP a) := hide (by rw [msk_next hwa, Nat.or_assoc])
              have HS : Hid (¬ (0 ≤ a ∧ a < 64) → W ||| mskP (WL.take (j + 1)) = W ||| mskP (WL.take j)) := hide (fun h => by rw [msk_skip hwa h])
              clear UA GI BB3 DONE FO FX2 LG LE FL FL2 TG WST
              obtain ⟨M2, hM2⟩ : ∃ M2, M2 = W ||| mskP (WL.take (j + 1)) := ⟨_, rfl⟩
              obtain ⟨M1, hM1⟩ : ∃ M1, M1 = W ||| mskP (WL.take j) := ⟨_, rfl⟩
              rw [← hM1] at HO HN HS
              rw [← hM2] at HN HS
              rw [← hM1]
              replace hM2 := hide hM2
              clear hwa oa hM1
              by_cases h0 : 0 ≤ a
              · by_cases h1 : a < 64
                · have HO2 := unhide HO
                  rw [← unhide HN] at HO2
                  obtain ⟨an, rfl⟩ : ∃ an : Nat, a = an := ⟨a.toNat, by omega⟩
                  have hwu : IntKind.u64.wrap (an : Int) = (an : Int) := by rw [wrapU]; omega
                  rw [hwu, Int.toNat_natCast, show min an 64 = an by omega] at HO2
                  clear HO HN HS
                  go_wp2_with fail
                  go_roundw
                  case rel => exact ⟨j + 1, hjl, by go_num, by first | rw [unhide hM2] | rw [HO2, unhide hM2], gv⟩
                  case measure => exact dec_lt ll j hjl hjw
                · have e := unhide HS (fun h => h1 h.2)
                  rw [← e]
                  clear HO HN HS e
                  go_wp2_with fail
                  go_roundw
                  case rel => exact ⟨j + 1, hjl, by go_num, by rw [unhide hM2], gv⟩
                  case measure => exact dec_lt ll j hjl hjw
              · have e := unhide HS (fun h => h0 h.1)
                rw [← e]
                clear HO HN HS e
                go_wp2_with fail
                go_roundw
                case rel => exact ⟨j + 1, hjl, by go_num, by rw [unhide hM2], gv⟩
                case measure => exact dec_lt ll j hjl hjw
            · obtain rfl : j = ll := by omega
              have gy8 : Hid (G y3 wr) := hide ((unhide gy7).trans (unhide gv))
              obtain ⟨bx0, bx1, bx2, bx3, bx4, bx5, bx6, bx7, bx8, bx9, bx10, bx11, bx12⟩ := unhide BB3 wr (unhide gy8)
              rw [unhide LE]
              obtain ⟨MW, hMW⟩ : ∃ MW, MW = W ||| mskP WL := ⟨_, rfl⟩
              have hMb : Hid (MW < 18446744073709551616) := hide (by rw [hMW]; exact or_lt (unhide hWb) (msk_lt _))
              rw [← hMW] at FX2
              rw [← hMW]
              have C6 := hide (unhide FO wr (pc : Int) (unhide gy8))
              clear LG LE gv hl6 gy7 gy6 hMW GI FO UA WST hWb
              go_wp2_with fail
              refine (unhide C6).mono ?_
              rintro e y9 ⟨nv, rfl, hL3, g9⟩
              obtain ⟨no, nc, hnv, _, hget3⟩ := hL3.get
              obtain ⟨nl, hnl⟩ : ∃ nl, nl = (flP (md2 m f) f (pc : Int)).length := ⟨_, rfl⟩
              have gy9 : Hid (G y3 y9) := hide ((unhide gy8).trans g9)
              have K9 := hide (unhide DONE y9 (unhide gy9))
              obtain ⟨i0, i1, i2, i3, i4⟩ := unhide hcel y9 (unhide gy9)
              clear bx0 bx1 bx2 bx3 bx4 bx5 bx6 bx7 bx8 bx9 bx10 bx11 bx12
              obtain ⟨bx0, bx1, bx2, bx3, bx4, bx5, bx6, bx7, bx8, bx9, bx10, bx11, bx12⟩ := unhide BB3 y9 (unhide gy9)
              have NG : Hid (op ≠ 41 → ∀ j, j < nl → ∃ (p q t : Nat), no = some ⟨p, q, none⟩ ∧ y9.cell? ⟨p, q + j, none⟩ = some (.int .i64 (t : Int)) ∧ t < n0 ∧ WkI st fr t MW) := hide fun h41 j hj => by
                obtain ⟨p, q, a, e1, e2, e3⟩ := hget3 j (by omega)
                obtain ⟨t, rfl, ht, hz⟩ := unhide FX2 a h41 (List.mem_of_getElem? e2)
                exact ⟨p, q, t, e1, e3 y9 (G.refl y9), ht, hz⟩
              have hn6 : Hid (op ≠ 41 → nl ≤ 2) := hide (fun h => by rw [hnl]; exact unhide FL pc op A B C D (unhide hins) h)
              rw [← hnl] at hnv
              subst hnv
              obtain ⟨tp, tq, ta, rfl, ct⟩ := unhide TG k y9 hlt (unhide gy9)
              clear hnl hget3 hL3 C6 g9 gy8 FX2 FL FL2 BB3 DONE TG
              by_cases hz : nl = 0
              · subst hz
                clear NG
                go_wp2_with fail
                go_ret
                exact ⟨rfl, unhide K9⟩
              · by_cases h41 : op = 41
                · subst h41
                  have hz2 : ((nl : Int) == 0) = false := beq_eq_false_iff_ne.2 (by omega)
                  clear NG
                  go_wp2_with fail
                  go_ret
                  exact ⟨rfl, unhide K9⟩
                · have b41 : (op == 41) = false := beq_eq_false_iff_ne.2 h41
                  have hz2 : ((nl : Int) == 0) = false := beq_eq_false_iff_ne.2 (by omega)
                  obtain ⟨tv, htv, htb⟩ := and_ffff ta
                  have hmd : Int.tmod (tv : Int) (nl : Int) = ((tv % nl : Nat) : Int) := (Int.ofNat_tmod tv nl).symm
                  have hml : tv % nl < nl := Nat.mod_lt _ (by omega)
                  obtain ⟨md, hmd2⟩ : ∃ md, md = tv % nl := ⟨_, rfl⟩
                  rw [← hmd2] at hmd hml
                  obtain ⟨np, nq2, tt, rfl, cn, htn, hWk⟩ := unhide NG h41 md hml
                  have hmi : (md : Int) < (nl : Int) := by omega
                  have hnz : ¬ (nl : Int) = 0 := by omega
                  have REL : Hid (MW < 18446744073709551616 ∧ WkI st fr tt MW ∧ G y3 y9) := hide ⟨unhide hMb, hWk, unhide gy9⟩
                  clear NG hWk hmd2 htb h41 hz K9 hMb gy9 hn6
                  go_wp2_with fail
                  go_roundw
                  case rel => exact ⟨k + 1, tt, MW, hlt, htn, by go_num, rfl, rfl, REL⟩
                  case measure => first | exact dec_lt nt k hlt hkw | (have h9 := dec_lt nt k hlt hkw; rw [hkw] at h9; exact h9)

set_option maxRecDepth 100000 in
theorem lifted_LiveWalks (os : Os) (started : os.Started) (H : Type) (enc : TypeId × Value → H) :
    ReturnsInHanded {} Try.checked os 6 .any (Rows.liveWalksSpec.pre6 enc Try.prog Try.f6 Rows.liveWalksRow.domain false) (Rows.liveWalksSpec.post enc Try.prog Try.f6 false true false false) := by
  refine returnsInHanded_of_change_sized (C := Try.checked) own started (by kernel_rfl) Try.func6
    (ChangeSpec.witness6 (enc := enc) (C := Try.checked) false ⟨#[], #[.agg #[.slice none 0 0, .slice none 0 0, .slice none 0 0, .slice none 0 0, .slice none 0 0, .int .i64 0], .agg #[.int .i64 0, .int .i64 0, .int .i64 0, .int .i64 0, .slice none 0 0, .slice none 0 0, .slice none 0 0], .slice none 0 0, .int .i64 0], []⟩ 8 (by kernel_rfl) (by kernel_rfl) (by kernel_rfl) (by kernel_rfl)) ?_
  intro W base args ds gs before hval0 hW _ hsz0 _
  have hval : ∀ (j : Nat) t v, Try.f6.params[j]? = some t → args[j]? = some v → Value.okWide Try.prog W .any base t v := hval0
  have hsz : (DataW.weightsEach Try.prog (Try.f6.params.toList ++ Rows.liveWalksSpec.plain.varTypes Try.prog) (ds ++ gs)).all (· ≤ reachBytes) = true := hsz0
  have hW' := hW
  obtain ⟨p, q, hA0, hV, rfl, hfz, hnd⟩ := hW
  have hA : DataW.TrodAll enc Try.prog W 0 (fun _ => true) true Try.f6.params.toList args.toList ds p := hA0
  rw [Try.params6] at hA hval hsz
  obtain ⟨v0, vs0, d0, ds0, p0, q0, hargs, rfl, rfl, h0, r0⟩ := trodAll_cons hA
  obtain ⟨v1, vs1, d1, ds1, p1, q1, rfl, rfl, rfl, h1, r1⟩ := trodAll_cons r0
  obtain ⟨v2, vs2, d2, ds2, p2, q2, rfl, rfl, rfl, h2, r2⟩ := trodAll_cons r1
  obtain ⟨v3, vs3, d3, ds3, p3, q3, rfl, rfl, rfl, h3, r3⟩ := trodAll_cons r2
  obtain ⟨rfl, rfl, rfl⟩ := trodAll_nil r3
  obtain rfl : args = #[v0, v1, v2, v3] := by cases args; simp_all
  obtain ⟨rfl, rfl⟩ := trodVars_none hV
  have k0 := h0
  have lt0 : ∀ x ∈ p0, x.block < W.heap.size := by obtain ⟨m, hm⟩ := k0; exact DataW.trod_lt m _ _ _ hm
  obtain ⟨m0, so0, sc0, go0, gc0, co0, cc0, ao0, ac0, fo0, fc0, rfl, hM0, oM0, hl0⟩ := open_modr (hval 0 31 v0 rfl rfl) h0 (fun k hk => by simpa using List.all_eq_true.1 hsz k (DataW.weights_mem_each (j := 0) (t := 31) (d := d0) rfl rfl k hk))
  have k1 := h1
  have lt1 : ∀ x ∈ p1, x.block < W.heap.size := by obtain ⟨m, hm⟩ := k1; exact DataW.trod_lt m _ _ _ hm
  obtain ⟨f1, ko1, kc1, io1, ic1, mo1, mc1, rfl, rk1, ri1, rm1, oF1⟩ := open_fn (hval 1 42 v1 rfl rfl) h1
  have k2 := h2
  have lt2 : ∀ x ∈ p2, x.block < W.heap.size := by obtain ⟨m, hm⟩ := k2; exact DataW.trod_lt m _ _ _ hm
  obtain ⟨a2, n2, c2, l2, rfl, w2⟩ := open_il (hval 2 32 v2 rfl rfl) h2
  have k3 := h3
  have lt3 : ∀ x ∈ p3, x.block < W.heap.size := by obtain ⟨m, hm⟩ := k3; exact DataW.trod_lt m _ _ _ hm
  obtain ⟨a3, rfl, rfl, rfl, w3⟩ := open_int Try.underlying3 (hval 3 3 v3 rfl rfl) h3
  clear hA0 hval0 hsz0
  refine (walk_LiveWalks W m0 so0 sc0 go0 gc0 co0 cc0 ao0 ac0 fo0 fc0 f1 ko1 kc1 io1 ic1 mo1 mc1 a2 n2 c2 l2 a3 hM0 oM0 hl0 rk1 ri1 rm1 oF1 w2 (oI_wf w3)).mono fun e W' ⟨he, hg⟩ => ?_
  subst he
  exact ⟨_, rfl, _, _, _, [], _, [], hW', trodAll_mk1 (shut_bool Try.underlying4 _), (trodAll_cons_mk (Below.trod laidOut (by kernel_rfl) (of_decide_eq_true (by kernel_rfl)) k0 hg lt0) (trodAll_cons_mk (Below.trod laidOut (by kernel_rfl) (of_decide_eq_true (by kernel_rfl)) k1 hg lt1) (trodAll_cons_mk (Below.trod laidOut (by kernel_rfl) (of_decide_eq_true (by kernel_rfl)) k2 hg lt2) (trodAll_cons_mk (Below.trod laidOut (by kernel_rfl) (of_decide_eq_true (by kernel_rfl)) k3 hg lt3) trodAll_mk0)))), rfl, hg.frame _, fun h => by cases h⟩

/-- THE STATEMENT. -/
theorem said_LiveWalks : Rows.LiveWalksSaid :=
  OpenClaim.holds_of_wide 6 Try.f6 rfl rfl rfl rfl rfl rfl rfl ⟨rfl, rfl, rfl, rfl, rfl⟩ rfl rfl rfl rfl rfl (by kernel_rfl) Try.func6 (by kernel_rfl)
    (of_decide_eq_true (by kernel_rfl)) (by unfold Func.isWrapper; first | (rw [if_pos (by decide +kernel)]; kernel_rfl) | (rw [if_neg (by decide +kernel)]; exact ⟨rfl, rfl⟩))
    (fun os started H enc _ => lifted_LiveWalks os started H enc)
#print axioms said_LiveWalks
end Go.Proofs.Ytpbeafgfhnlmbaa
