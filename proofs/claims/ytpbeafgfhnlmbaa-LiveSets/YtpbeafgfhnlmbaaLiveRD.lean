/- The document's own: bit, run, fn of gantlineref9. -/
import Derived.Test.YtpbeafgfhnlmbaaLiveFC
import Derived.Test.YtpbeafgfhnlmbaaLiveMap
namespace Go.Proofs.Ytpbeafgfhnlmbaa
set_option maxRecDepth 100000
open Go.RowKit Go.Maps Go.ChangeShapes Go.WideShapes Go.ChangeAt Go.Deep

set_option maxHeartbeats 1000000 in
theorem rbit_any (w : World) (s : Int) (ho : oI s) : Calls Try.prog 39 #[.int .i64 s] w fun e w' => e = .returned (.int .u64 (bitP s : Int)) ∧ w' = w := by
  have hb := shl_bit s ho
  by_cases h0 : s < 0
  · have e : bitP s = 0 := by unfold bitP; rw [if_neg (by omega)]
    rw [e]
    clear hb e ho
    go_enter Try.func39, Try.ntmps39
    go_wp2_with fail
    go_ret
    exact ⟨rfl, rfl⟩
  · by_cases h1 : 63 < s
    · have e : bitP s = 0 := by unfold bitP; rw [if_neg (by omega)]
      rw [e]
      clear hb e ho
      go_enter Try.func39, Try.ntmps39
      go_wp2_with fail
      go_ret
      exact ⟨rfl, rfl⟩
    · have hm : min (IntKind.u64.wrap s).toNat 64 = s.toNat := by rw [wrapU]; omega
      rw [hm] at hb
      replace hb := hide hb
      clear ho hm
      go_enter Try.func39, Try.ntmps39
      go_wp2_with fail
      refine bodyPost_ret (by simp [results, Try.results39, go_sem]; try rfl) rfl ?_
      rw [unhide hb]
      exact ⟨rfl, rfl⟩

theorem runN_snoc (a : Int) (k : Nat) : runN a (k + 1) = runN a k ++ [wrap64 (a + (k : Int))] := by
  simp [runN, List.range_succ]
set_option maxHeartbeats 1000000 in
theorem rrun_none (w : World) (a n : Int) (h : n < 0 ∨ 64 < n) : Calls Try.prog 33 #[.int .i64 a, .int .i64 n] w (LTo w (runP a n)) := by
  have e : runP a n = [] := by unfold runP; rw [if_pos h]
  have K : Hid (LTo w (runP a n) (.returned (.slice none 0 0)) w) := hide (by rw [e]; exact ⟨_, rfl, isl_nil w, G.refl w⟩)
  clear e
  go_enter Try.func33, Try.ntmps33
  go_wp2_with fail
  go_loopw [5, 6] (fun b i wr => b = .slice none 0 0 ∧ i = .int .i64 0 ∧ w = wr) (fun _ _ _ => 0)
  case atStart => exact ⟨rfl, rfl, rfl⟩
  case round =>
    obtain ⟨rfl, rfl, rfl⟩ := hrel
    by_cases h0 : n < 0
    · have h1 : ¬ 0 < n := by omega
      clear h
      go_wp2_with fail
      refine bodyPost_ret (by simp [results, Try.results33, go_sem]; try rfl) rfl ?_
      exact unhide K
    · have h1 : 0 < n := by omega
      have h2 : ¬ n ≤ 64 := by omega
      clear h
      go_wp2_with fail
      refine bodyPost_ret (by simp [results, Try.results33, go_sem]; try rfl) rfl ?_
      exact unhide K
set_option maxHeartbeats 1000000 in
theorem rrun_some (w : World) (a : Int) (n : Nat) (h : n ≤ 64) : Calls Try.prog 33 #[.int .i64 a, .int .i64 (n : Int)] w (LTo w (runN a n)) := by
  have AP : Hid (∀ (k : Nat) (wr : World) (vb : Value), k < n → (OwnL wr w.heap.size vb (runN a k) ∧ G w wr) → ∃ v' w', (Builtin.append_ #[32, 32] 32 #[vb, .slice (some ⟨wr.heap.size, 0, none⟩) 1 1]).run Try.prog (wr.alloc (.cells #[.int .i64 (wrap64 (a + (k : Int)))] 3)) = .ok v' w' ∧ OwnL w' w.heap.size v' (runN a (k + 1)) ∧ G w w') := hide fun k wr vb hk HW => by
    obtain ⟨v', w', r1, r2, r3⟩ := own_app1 (wrap64 (a + (k : Int))) HW.1 HW.2.size (by rw [runN_len]; omega)
    refine ⟨v', w', r1, ?_, ⟨r3.os.trans HW.2.os, r3.tape.trans HW.2.tape, r3.output.trans HW.2.output, Nat.le_trans HW.2.size r3.size, fun b hb => (r3.block b hb).trans (HW.2.block b hb)⟩⟩
    rw [runN_snoc]
    exact r2
  have ST : Hid (OwnL w w.heap.size (.slice none 0 0) (runN a 0) ∧ G w w) := hide ⟨ownl_nil _ _, G.refl w⟩
  have FI : Hid (∀ wr vb, (OwnL wr w.heap.size vb (runN a n) ∧ G w wr) → LTo w (runN a n) (.returned vb) wr) := hide fun wr vb HW => ⟨vb, rfl, HW.1.isl, HW.2⟩
  have h64 : (n : Int) ≤ 64 := by omega
  go_enter Try.func33, Try.ntmps33
  go_wp2_with fail
  go_loopw [5, 6] (fun b i wr => ∃ k : Nat, k ≤ n ∧ i = .int .i64 k ∧ Hid (OwnL wr w.heap.size b (runN a k) ∧ G w wr)) (fun _ i _ => n - (intOf i).toNat)
  case atStart => exact ⟨0, Nat.zero_le _, rfl, ST⟩
  case round =>
    obtain ⟨k, hk, rfl, HW⟩ := hrel
    clear ST
    by_cases hlt : k < n
    · have hki : (k : Int) < (n : Int) := by omega
      have A1 := hide (unhide AP k wr _ hlt (unhide HW))
      clear AP FI HW
      go_wp2_with (at_builtin; obtain ⟨v', w', hrun, HG⟩ := unhide A1; replace HG := hide HG; refine wpl_run rfl (.tmp 16) (.tmp 20) 32 rfl _ _ rfl rfl _ _ hrun ?_; clear hrun A1)
      go_roundw
      case rel => exact ⟨k + 1, by omega, by go_num, HG⟩
      case measure => simp [intOf]; omega
    · obtain rfl : k = n := by omega
      have K := hide (unhide FI wr _ (unhide HW))
      clear HW FI AP
      go_wp2_with fail
      refine bodyPost_ret (by simp [results, Try.results33, go_sem]; try rfl) rfl ?_
      exact unhide K
theorem rrun_any (w : World) (a n : Int) : Calls Try.prog 33 #[.int .i64 a, .int .i64 n] w (LTo w (runP a n)) := by
  by_cases h : n < 0 ∨ 64 < n
  · exact rrun_none w a n h
  · obtain ⟨k, rfl⟩ : ∃ k : Nat, n = k := ⟨n.toNat, by omega⟩
    have := rrun_some w a k (by omega)
    unfold runP
    rw [if_neg h, Int.toNat_natCast]
    exact this
set_option maxHeartbeats 1000000 in
theorem rfn_any (w : World) (m : Md) (so : Option Addr) (sc : Nat) (go : Option Addr) (gc : Nat) (co : Option Addr) (cc : Nat) (ao : Option Addr) (ac : Nat) (fo : Option Addr) (fc : Nat) (h : ModR w m so sc go gc co cc ao ac fo fc) (k : Int) :
    Calls Try.prog 34 #[agM m so sc go gc co cc ao ac fo fc, .int .i64 k] w (FnTo w (fnP m k)) := by
  unfold agM
  by_cases h0 : k < 0
  · have e := fnP_out m k (Or.inl h0)
    have K : Hid (∀ x, G w x → FnTo w (fnP m k) (.returned (.agg #[.int .i64 0, .int .i64 0, .int .i64 0, .int .i64 0, .slice none 0 0, .slice none 0 0, .slice none 0 0])) x) := hide (fun x g => by rw [e]; exact ⟨none, 0, none, 0, none, 0, rfl, g⟩)
    clear h e
    go_enter Try.func34, Try.ntmps34
    go_wp2_with fail
    refine bodyPost_ret (by simp [results, Try.results34, go_sem]; try rfl) rfl ?_
    exact unhide K _ (by first | exact (G.alloc _ _).more _ | exact g_fn (w.heap.size + 1) (by omega) ((G.alloc _ _).more _) _ _ _ _ _ _ _)
  · by_cases h1 : (m.fn.length : Int) ≤ k
    · have e := fnP_out m k (Or.inr h1)
      have K : Hid (∀ x, G w x → FnTo w (fnP m k) (.returned (.agg #[.int .i64 0, .int .i64 0, .int .i64 0, .int .i64 0, .slice none 0 0, .slice none 0 0, .slice none 0 0])) x) := hide (fun x g => by rw [e]; exact ⟨none, 0, none, 0, none, 0, rfl, g⟩)
      clear h e
      go_enter Try.func34, Try.ntmps34
      go_wp2_with fail
      refine bodyPost_ret (by simp [results, Try.results34, go_sem]; try rfl) rfl ?_
      exact unhide K _ (by first | exact (G.alloc _ _).more _ | exact g_fn (w.heap.size + 1) (by omega) ((G.alloc _ _).more _) _ _ _ _ _ _ _)
    · obtain ⟨j, rfl⟩ : ∃ j : Nat, k = j := ⟨k.toNat, by omega⟩
      have hj : j < m.fn.length := by omega
      obtain ⟨b, off, a, cs, rfl, ha, ecs, hcs⟩ := row_get h.r5 hj
      obtain ⟨ko, kc, io, ic, mo, mc, rfl, _⟩ := ecs
      have e : fnP m (j : Int) = a := by
        unfold fnP
        rw [if_neg h0, Int.toNat_natCast, ha]
        rfl
      have K : Hid (∀ x, G w x → FnTo w (fnP m (j : Int)) (.returned (.agg #[.int .i64 a.p, .int .i64 a.c, .int .i64 a.s, .int .i64 a.r, .slice ko a.ks.length kc, .slice io a.is.length ic, .slice mo a.ms.length mc])) x) := hide (fun x g => by rw [e]; exact ⟨ko, kc, io, ic, mo, mc, rfl, g⟩)
      obtain ⟨W2, hW2⟩ : ∃ W2, W2 = ((w.alloc (.cells #[.slice so m.sh.length sc, .slice go m.gl.length gc, .slice co m.co.length cc, .slice ao m.ca.length ac, .slice (some ⟨b, off, none⟩) m.fn.length fc, .int .i64 m.main] 48)).alloc (.cells #[.int .i64 0, .int .i64 0, .int .i64 0, .int .i64 0, .slice none 0 0, .slice none 0 0, .slice none 0 0] 52)) := ⟨_, rfl⟩
      have gW : G w W2 := by rw [hW2]; exact (G.alloc _ _).more _
      have c0 := hcs W2 gW 0 _ rfl
      have c1 := hcs W2 gW 1 _ rfl
      have c2 := hcs W2 gW 2 _ rfl
      have c3 := hcs W2 gW 3 _ rfl
      have c4 := hcs W2 gW 4 _ rfl
      have c5 := hcs W2 gW 5 _ rfl
      have c6 := hcs W2 gW 6 _ rfl
      change W2.cell? ⟨b, off + j * 7, none⟩ = _ at c0
      change W2.cell? ⟨b, off + j * 7 + 1, none⟩ = _ at c1
      change W2.cell? ⟨b, off + j * 7 + 2, none⟩ = _ at c2
      change W2.cell? ⟨b, off + j * 7 + 3, none⟩ = _ at c3
      change W2.cell? ⟨b, off + j * 7 + 4, none⟩ = _ at c4
      change W2.cell? ⟨b, off + j * 7 + 5, none⟩ = _ at c5
      change W2.cell? ⟨b, off + j * 7 + 6, none⟩ = _ at c6
      have hlen : W2.cell? ⟨w.heap.size, 4, none⟩ = some (.slice (some ⟨b, off, none⟩) m.fn.length fc) := by rw [hW2]; simp [go_sem]
      have z0 : W2.cell? ⟨w.heap.size + 1, 0, none⟩ = some (.int .i64 0) := by rw [hW2]; simp [go_sem]
      have z1 : W2.cell? ⟨w.heap.size + 1, 1, none⟩ = some (.int .i64 0) := by rw [hW2]; simp [go_sem]
      have z2 : W2.cell? ⟨w.heap.size + 1, 2, none⟩ = some (.int .i64 0) := by rw [hW2]; simp [go_sem]
      have z3 : W2.cell? ⟨w.heap.size + 1, 3, none⟩ = some (.int .i64 0) := by rw [hW2]; simp [go_sem]
      have z4 : W2.cell? ⟨w.heap.size + 1, 4, none⟩ = some (.slice none 0 0) := by rw [hW2]; simp [go_sem]
      have z5 : W2.cell? ⟨w.heap.size + 1, 5, none⟩ = some (.slice none 0 0) := by rw [hW2]; simp [go_sem]
      have z6 : W2.cell? ⟨w.heap.size + 1, 6, none⟩ = some (.slice none 0 0) := by rw [hW2]; simp [go_sem]
      have f0 : W2.frozen? ⟨w.heap.size + 1, 0, none⟩ = false := by rw [hW2]; simp [go_sem]
      have f1 : W2.frozen? ⟨w.heap.size + 1, 1, none⟩ = false := by rw [hW2]; simp [go_sem]
      have f2 : W2.frozen? ⟨w.heap.size + 1, 2, none⟩ = false := by rw [hW2]; simp [go_sem]
      have f3 : W2.frozen? ⟨w.heap.size + 1, 3, none⟩ = false := by rw [hW2]; simp [go_sem]
      have f4 : W2.frozen? ⟨w.heap.size + 1, 4, none⟩ = false := by rw [hW2]; simp [go_sem]
      have f5 : W2.frozen? ⟨w.heap.size + 1, 5, none⟩ = false := by rw [hW2]; simp [go_sem]
      have f6 : W2.frozen? ⟨w.heap.size + 1, 6, none⟩ = false := by rw [hW2]; simp [go_sem]
      have KG : Hid (∀ v0 v1 v2 v3 v4 v5 v6, G w (((((((W2.setCell ⟨w.heap.size + 1, 0, none⟩ v0).setCell ⟨w.heap.size + 1, 1, none⟩ v1).setCell ⟨w.heap.size + 1, 2, none⟩ v2).setCell ⟨w.heap.size + 1, 3, none⟩ v3).setCell ⟨w.heap.size + 1, 4, none⟩ v4).setCell ⟨w.heap.size + 1, 5, none⟩ v5).setCell ⟨w.heap.size + 1, 6, none⟩ v6)) := hide (fun v0 v1 v2 v3 v4 v5 v6 => g_fn (w.heap.size + 1) (by omega) gW v0 v1 v2 v3 v4 v5 v6)
      have hji : (j : Int) < (m.fn.length : Int) := by omega
      have hj0 : ¬ (j : Int) < 0 := h0
      clear h hcs ha e gW h0 h1
      go_enter Try.func34, Try.ntmps34
      go_upto_region 1 with fail
      rw [← hW2]
      clear hW2
      go_wp2_with fail
      refine bodyPost_ret (by simp [results, Try.results34, go_sem, z0, z1, z2, z3, z4, z5, z6]; try rfl) rfl ?_
      exact unhide K _ (unhide KG _ _ _ _ _ _ _)

end Go.Proofs.Ytpbeafgfhnlmbaa
