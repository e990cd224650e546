/- The document's own sign (gantlineref19). -/
import Derived.Test.YtodfcmmdnobdhaaDoorLexRefK
namespace Go.Proofs.YtodfcmmdnobdhaaDoor
set_option maxRecDepth 100000
open Go.RowKit Go.Maps Go.ChangeShapes Go.WideShapes Go.ChangeAt Go.Deep


theorem g_drewN (w : World) (k : Nat) : G w (w.drewN k) := ⟨rfl, rfl, rfl, Nat.le_refl _, fun _ _ => rfl⟩

theorem ext_00 (s : ByteArray) : s.extract 0 0 = ⟨#[]⟩ := by
  rw [Lib.extract_eq]
  simp
theorem one_step {k : Nat} {c d : UInt8} (hk : oneL[k]? = some d) : (oneL.drop k).contains c = (c == d || (oneL.drop (k + 1)).contains c) := by
  obtain ⟨hlt, hy⟩ := List.getElem?_eq_some_iff.1 hk
  rw [List.drop_eq_getElem_cons hlt, List.contains_cons, hy]

set_option maxHeartbeats 1000000 in
theorem rsign_any (s : ByteArray) (w : World) (h0 : 0 < s.size) : Calls Tryd.prog 18 #[.string s] w fun e w' => e = .returned (.string (s.extract 0 (signN s.data.toList))) ∧ G w w' := by
  have hl : s.data.toList.length = s.size := (Lib.size_eq s).symm
  obtain ⟨W1, hW1⟩ : ∃ W1, W1 = w.alloc (.cells #[.string ⟨#[61, 61]⟩, .string ⟨#[33, 61]⟩, .string ⟨#[60, 61]⟩, .string ⟨#[62, 61]⟩, .string ⟨#[60, 60]⟩, .string ⟨#[62, 62]⟩, .string ⟨#[38, 38]⟩, .string ⟨#[124, 124]⟩] 9) := ⟨_, rfl⟩
  have gW : Hid (G w W1) := hide (by rw [hW1]; exact (Below.refl _ w).alloc (Nat.le_refl _) _)
  have hWs : w.heap.size < W1.heap.size := by rw [hW1, World.size_alloc]; omega
  have RD : Hid (∀ k, k < 8 → ∃ y : ByteArray, twoL[k]? = some y.data.toList ∧ ∀ x, G W1 x → x.cell? ⟨w.heap.size, k, none⟩ = some (.string y)) := hide fun k hk => by
    have hx : twoL[k]? = some (twoL[k]'(by show k < 8; exact hk)) := List.getElem?_eq_getElem _
    refine ⟨⟨(twoL[k]'(by show k < 8; exact hk)).toArray⟩, hx, fun x gx => ?_⟩
    have h1 := strs_cell w twoL k _ hx
    have h2 : W1.cell? ⟨w.heap.size, k, none⟩ = some (.string ⟨(twoL[k]'(by show k < 8; exact hk)).toArray⟩) := by rw [hW1]; exact h1
    exact (Below.cell gx (show (⟨w.heap.size, k, none⟩ : Addr).block < W1.heap.size from hWs)).trans h2
  obtain ⟨O, hO⟩ : ∃ O, O = (⟨#[40, 41, 123, 125, 91, 93, 44, 59, 46, 61, 60, 62, 43, 45, 42, 47, 37, 38, 124, 94, 33, 58]⟩ : ByteArray) := ⟨_, rfl⟩
  have hOs : O.size = 22 := by rw [hO]; rfl
  have hOl : O.data.toList = oneL := by rw [hO]; rfl
  have OD : Hid (∀ k (h : k < O.size), ∃ d : UInt8, oneL[k]? = some d ∧ (O[k]'h).toNat = d.toNat) := hide fun k h => by
    have h2 : k < O.data.toList.length := by rw [← Lib.size_eq]; exact h
    refine ⟨O[k]'h, ?_, rfl⟩
    rw [← hOl, bget h h2]
    exact List.getElem?_eq_getElem h2
  have hg : s[0]'h0 = s.data.toList[0]'(by omega) := bget h0 (by omega)
  obtain ⟨c, hc⟩ : ∃ c : UInt8, c = s[0]'h0 := ⟨_, rfl⟩
  have hq : signN s.data.toList = signM (twoP s.data.toList) (oneP c) := by rw [signN, headP_get (by omega), hc, hg]
  rw [hq]
  have ST : Hid (twoP s.data.toList = (decide (2 ≤ s.size) && (twoL.drop 0).contains (s.extract 0 2).data.toList)) := hide (by rw [twoP, hl, ext_take]; rfl)
  have ST2 : Hid (oneP c = (oneL.drop 0).contains c) := hide rfl
  obtain ⟨tw, htw⟩ : ∃ tw, tw = twoP s.data.toList := ⟨_, rfl⟩
  obtain ⟨on, hon⟩ : ∃ on, on = oneP c := ⟨_, rfl⟩
  rw [← htw] at ST ⊢
  rw [← hon] at ST2 ⊢
  have hcn : (s[0]'h0).toNat = c.toNat := by rw [hc]
  have h00 : (0 : Int) < (s.size : Int) := by omega
  clear hq hg hOl hc hl htw hon hWs
  go_enter Tryd.func18, Tryd.ntmps18
  go_upto_region 2 with fail
  rw [← hW1]
  clear hW1
  go_wp2_with fail
  go_loopw [4] (fun i wr => ∃ k : Nat, k ≤ 8 ∧ i = .int .i64 (k : Int) ∧ Hid (G W1 wr) ∧ Hid (tw = (decide (2 ≤ s.size) && (twoL.drop k).contains (s.extract 0 2).data.toList))) (fun i _ => 8 - (intOf i).toNat)
  case atStart => exact ⟨0, Nat.zero_le _, rfl, hide (G.refl _), ST⟩
  case round =>
    obtain ⟨k, hk, rfl, HG, HQ⟩ := hrel
    clear ST
    by_cases hlt : k < 8
    · obtain ⟨y, hy, hcell0⟩ := unhide RD k hlt
      have hcell := fun j => hcell0 (wr.drewN j) (G.trans (unhide HG) (g_drewN _ j))
      have hst := contains_step (x := (s.extract 0 2).data.toList) hy
      rw [← Lib.toList_data y, ← Lib.toList_data (s.extract 0 2)] at hst
      have h1 : (0 : Int) ≤ (k : Int) ∧ (k : Int) < 8 := ⟨Int.natCast_nonneg k, by omega⟩
      have HM := hide (show (k : Int) < (k : Int) + 1 ∧ (k : Int) + 1 ≤ ((8 : Nat) : Int) by omega)
      by_cases hbig : 2 ≤ s.size
      · have hb2 : (2 : Int) ≤ (s.size : Int) := by omega
        have hb3 : decide ((2 : Int) ≤ (s.size : Int)) = true := decide_eq_true hb2
        cases hb : ((s.extract 0 2).toList == y.toList)
        · have hb' : (y.toList == (s.extract 0 2).toList) = false := by rw [← hb, Bool.eq_iff_iff, beq_iff_eq, beq_iff_eq]; exact eq_comm
          have HN : Hid (tw = (decide (2 ≤ s.size) && (twoL.drop (k + 1)).contains (s.extract 0 2).data.toList)) := hide (by rw [unhide HQ, ← Lib.toList_data (s.extract 0 2), hst, hb', Bool.false_or])
          clear HQ hst hy RD hcell0 OD hb' ST2
          go_wp2_with fail
          go_quiet (fail)
          have HJ := hide (G.trans (unhide HG) (g_drewN wr nq))
          generalize wr.drewN nq = wr2 at HJ
          clear HG hcell
          go_wp2_with fail
          go_roundw
          case rel => exact ⟨k + 1, by omega, by first | rfl | go_num, HJ, HN⟩
          case measure => exact dec_m (unhide HM).1 (unhide HM).2
        · have hb' : (y.toList == (s.extract 0 2).toList) = true := by rw [← hb, Bool.eq_iff_iff, beq_iff_eq, beq_iff_eq]; exact eq_comm
          have HE : tw = true := by rw [unhide HQ, ← Lib.toList_data (s.extract 0 2), hst, hb', Bool.true_or, decide_eq_true hbig]; rfl
          have hyx : y = s.extract 0 2 := by
            have h3 := beq_iff_eq.1 hb
            rw [Lib.toList_data, Lib.toList_data] at h3
            rw [← Lib.mk_data y, ← Lib.mk_data (s.extract 0 2), h3]
          have hend : Hid (y = s.extract 0 (signM tw on)) := hide (by rw [HE]; exact hyx)
          have hcell2 : Hid (∀ x, G wr x → x.cell? ⟨w.heap.size, k, none⟩ = some (.string y)) := hide fun x gx => hcell0 x (G.trans (unhide HG) gx)
          clear HQ hst hy RD hcell0 OD hb' ST2 HE hyx
          go_wp2_with fail
          go_quiet (fail)
          have hc3 := unhide hcell2 _ (g_drewN wr nq)
          have HJ := hide (G.trans (unhide HG) (g_drewN wr nq))
          generalize wr.drewN nq = wr2 at HJ hc3
          clear HG hcell hcell2
          go_wp2_with fail
          go_ret
          exact ⟨by rw [← unhide hend]; rfl, G.trans (unhide gW) (unhide HJ)⟩
      · have hb2 : ¬ (2 : Int) ≤ (s.size : Int) := by omega
        have hb3 : decide ((2 : Int) ≤ (s.size : Int)) = false := decide_eq_false hb2
        have HN : Hid (tw = (decide (2 ≤ s.size) && (twoL.drop (k + 1)).contains (s.extract 0 2).data.toList)) := hide (by rw [unhide HQ, decide_eq_false hbig, Bool.false_and, Bool.false_and])
        clear HQ hst hy RD hcell0 OD ST2
        go_wp2_with fail
        go_quiet (fail)
        have HJ := hide (G.trans (unhide HG) (g_drewN wr nq))
        generalize wr.drewN nq = wr2 at HJ
        clear HG hcell
        go_wp2_with fail
        go_roundw
        case rel => exact ⟨k + 1, by omega, by first | rfl | go_num, HJ, HN⟩
        case measure => exact dec_m (unhide HM).1 (unhide HM).2
    · obtain rfl : k = 8 := by omega
      have HE : tw = false := by
        rw [unhide HQ, show twoL.drop 8 = [] from rfl, List.contains_nil, Bool.and_false]
      subst HE
      clear HQ RD hlt
      go_upto_region 8 with fail
      rw [← hO]
      clear hO
      go_wp2_with fail
      go_loopw [6] (fun i wr => ∃ k : Nat, k ≤ 22 ∧ i = .int .i64 (k : Int) ∧ Hid (G W1 wr) ∧ Hid (on = (oneL.drop k).contains c)) (fun i _ => 22 - (intOf i).toNat)
      case atStart => exact ⟨0, Nat.zero_le _, rfl, HG, ST2⟩
      case round =>
        obtain ⟨k, hk, rfl, HG2, HQ⟩ := hrel
        clear ST2 HG
        by_cases hlt : k < 22
        · have hkO : k < O.size := by omega
          obtain ⟨d, hd, hdn⟩ := unhide OD k hkO
          have hst := one_step (c := c) hd
          have h1 : (0 : Int) ≤ (k : Int) ∧ (k : Int) < 22 := ⟨Int.natCast_nonneg k, by omega⟩
          have HM := hide (show (k : Int) < (k : Int) + 1 ∧ (k : Int) + 1 ≤ ((22 : Nat) : Int) by omega)
          have hOi : (O.size : Int) = 22 := by omega
          by_cases hcd : c.toNat = d.toNat
          · have hcd2 : c = d := UInt8.toNat_inj.1 hcd
            have HE : on = true := by rw [unhide HQ, hst, hcd2]; simp
            subst HE
            have ht : ((c.toNat : Int) == (d.toNat : Int)) = true := by rw [hcd]; simp
            have ht2 : (c.toNat : Int) = (d.toNat : Int) := by rw [hcd]
            clear HQ hst hd OD hcd hcd2
            generalize c.toNat = cn at hcn ht ht2
            generalize d.toNat = dn at hdn ht ht2
            go_wp2_with fail
            go_quiet (fail)
            have HJ := hide (G.trans (unhide HG2) (g_drewN wr nq))
            generalize wr.drewN nq = wr2 at HJ
            clear HG2
            go_wp2_with fail
            go_ret
            exact ⟨rfl, G.trans (unhide gW) (unhide HJ)⟩
          · have hcd2 : (c == d) = false := by
              rw [beq_eq_false_iff_ne]
              exact fun e => hcd (by rw [e])
            have HN : Hid (on = (oneL.drop (k + 1)).contains c) := hide (by rw [unhide HQ, hst, hcd2, Bool.false_or])
            have ht : ((c.toNat : Int) == (d.toNat : Int)) = false := by
              rw [beq_eq_false_iff_ne]
              omega
            have ht2 : ¬ (c.toNat : Int) = (d.toNat : Int) := by omega
            clear HQ hst hd OD hcd hcd2
            generalize c.toNat = cn at hcn ht ht2
            generalize d.toNat = dn at hdn ht ht2
            go_wp2_with fail
            go_quiet (fail)
            have HJ := hide (G.trans (unhide HG2) (g_drewN wr nq))
            generalize wr.drewN nq = wr2 at HJ
            clear HG2
            go_wp2_with fail
            go_roundw
            case rel => exact ⟨k + 1, by omega, by first | rfl | go_num, HJ, HN⟩
            case measure => exact dec_m (unhide HM).1 (unhide HM).2
        · obtain rfl : k = 22 := by omega
          have HE : on = false := by rw [unhide HQ]; rfl
          subst HE
          clear HQ OD hlt
          go_wp2_with fail
          go_ret
          exact ⟨by show _ = Ending.returned (.string (s.extract 0 0)); rw [ext_00]; rfl, G.trans (unhide gW) (unhide HG2)⟩
end Go.Proofs.YtodfcmmdnobdhaaDoor
