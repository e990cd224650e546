/- The document's own Cut (gantlineref19): just the words that the plain cut tells. -/
import Derived.Test.YtodfcmmdnobdhaaDoorLexRefB
namespace Go.Proofs.YtodfcmmdnobdhaaDoor
set_option maxRecDepth 100000
open Go.RowKit Go.Maps Go.ChangeShapes Go.WideShapes Go.ChangeAt Go.Deep

set_option maxHeartbeats 4000000 in
theorem rcut_any (s : ByteArray) (w : World) (hs : s.size ≤ 100000) : Calls Tryd.prog 10 #[.string s] w (RCutTo w (cutL s.data.toList 0)) := by
  have hl : s.data.toList.length = s.size := (Lib.size_eq s).symm
  obtain ⟨W1, hW1⟩ : ∃ W1, W1 = w.alloc (.cells #[] 34) := ⟨_, rfl⟩
  have MK : (Instr.makeSlice 29 (.int .i64 0) (.int .i64 0)).run Tryd.prog w = .ok (.slice (some ⟨w.heap.size, 0, none⟩) 0 0) W1 := by
    obtain ⟨i0, hi, hz0, hz1, hz2⟩ := info_parts info_rword
    have h := run_make (P := Tryd.prog) w 29 34 i0 _ Tryd.underlying29 hi hz0 .i64 .i64 0 0 (by omega) (by omega) (by omega) (by omega)
    have hme : madeCells (Value.agg #[.int .i64 0, .string ⟨#[]⟩, .int .i64 0]).cells ((0 : Int).toNat * i0.size) = #[] := Array.eq_empty_of_size_eq_zero (by rw [size_madeCells]; simp)
    rw [hW1, h, hme]
    rfl
  obtain ⟨R, hR⟩ : ∃ R, R = cutL s.data.toList 0 := ⟨_, rfl⟩
  have ST : Hid (RCutR w s.data.toList R 0 (.slice (some ⟨w.heap.size, 0, none⟩) 0 0) W1) := hide (by
    refine ⟨[], ⟨rfl, Or.inr ⟨w.heap.size, 0, #[], rfl, Nat.le_refl _, by rw [hW1]; exact heap_alloc_new w _, Nat.le_refl _, Nat.zero_le _, rfl, rfl⟩⟩, by rw [List.drop_zero, List.nil_append, hR], by rw [hW1]; exact (Below.refl _ w).alloc (Nat.le_refl _) _, Nat.zero_le _⟩)
  rw [← hR]
  replace hl := hide hl
  clear hR hW1
  go_enter Tryd.func10, Tryd.ntmps10
  go_wp2_with fail
  go_loopw [4, 5, 6, 7, 8, 9] (fun v i _ _ _ _ wr => ∃ k : Nat, k ≤ s.size ∧ i = .int .i64 (k : Int) ∧ Hid (RCutR w s.data.toList R k v wr)) (fun _ i _ _ _ _ _ => s.size - (intOf i).toNat)
  case atStart => exact ⟨0, Nat.zero_le _, rfl, ST⟩
  case round =>
    obtain ⟨k, hk, rfl, HW⟩ := hrel
    clear ST MK
    by_cases hlt : k < s.size
    · have hkl : k < s.data.toList.length := by rw [unhide hl]; exact hlt
      have hg := bget hlt hkl
      obtain ⟨c, hc⟩ : ∃ c, c = s.data.toList[k]'hkl := ⟨_, rfl⟩
      have hgc : s[k]'hlt = c := by rw [hg, hc]
      have hdc : Hid (s.data.toList.drop k = c :: s.data.toList.drop (k + 1)) := hide (by rw [List.drop_eq_getElem_cons hkl, hc])
      have h1 : (0 : Int) ≤ (k : Int) ∧ (k : Int) < (s.size : Int) := ⟨Int.natCast_nonneg k, by omega⟩
      clear hg hc
      cases hb : blankN c.toNat
      · obtain ⟨b1, b2, b3, b4⟩ : ¬ (c.toNat : Int) = 32 ∧ ¬ (c.toNat : Int) = 9 ∧ ¬ (c.toNat : Int) = 10 ∧ ¬ (c.toNat : Int) = 13 := by
          simp only [blankN, Bool.or_eq_false_iff, beq_eq_false_iff_ne] at hb
          omega
        have b5 : ((c.toNat : Int) == 13) = false := beq_eq_false_iff_ne.2 b4
        have b6 : ((c.toNat : Int) == 32) = false := beq_eq_false_iff_ne.2 b1
        have b7 : ((c.toNat : Int) == 9) = false := beq_eq_false_iff_ne.2 b2
        have b8 : ((c.toNat : Int) == 10) = false := beq_eq_false_iff_ne.2 b3
        replace hb := hide hb
        by_cases hrm : c = 47 ∧ (s.data.toList.drop (k + 1)).head? = some 47
        · obtain ⟨h47, hh⟩ := hrm
          have hk1 : k + 1 < s.size := by
            rcases Nat.lt_or_ge (k + 1) s.size with h | h
            · exact h
            · rw [List.drop_eq_nil_of_le (by rw [unhide hl]; exact h)] at hh
              cases hh
          have hk1l : k + 1 < s.data.toList.length := by rw [unhide hl]; exact hk1
          have hg1 : (s[k + 1]'hk1) = 47 := by
            rw [bget hk1 hk1l]
            rw [List.drop_eq_getElem_cons hk1l] at hh
            simpa using hh
          have hle := leadW_le lineN (s.data.toList.drop k)
          obtain ⟨m, hm⟩ : ∃ m, m = leadW lineN (s.data.toList.drop k) := ⟨_, rfl⟩
          have hm2 : 1 ≤ m := by
            rw [hm, unhide hdc, h47]
            have : leadW lineN (47 :: s.data.toList.drop (k + 1)) = leadW lineN (s.data.toList.drop (k + 1)) + 1 := rfl
            omega
          have HW2 : Hid (∀ (v : Value) (wx : World), RCutR w s.data.toList R k v wx → RCutR w s.data.toList R (k + m) v wx) := hide fun v wx h => by
            refine rc_gap h m (by rw [hm]; exact hle) ?_
            have := unhide hdc
            rw [hm, this, h47]
            exact gap_remark hh
          rw [← hm, List.length_drop, unhide hl] at hle
          have HI : Hid (k + leadW lineN (s.data.toList.drop k) = k + m) := hide (by rw [hm])
          have c47 : (c.toNat : Int) = 47 := by rw [h47]; rfl
          have d47 : ((s[k + 1]'hk1).toNat : Int) = 47 := by rw [hg1]; rfl
          have h2 : (0 : Int) ≤ (k : Int) + 1 ∧ (k : Int) + 1 < (s.size : Int) := by omega
          clear hh hg1 h47 hm hb hdc
          have c47b : ((c.toNat : Int) == 47) = true := beq_iff_eq.2 c47
          have d47b : (((s[k + 1]'hk1).toNat : Int) == 47) = true := beq_iff_eq.2 d47
          generalize hd : (s[k + 1]'hk1) = d at d47 d47b
          have h2a : (0 : Int) ≤ (k : Int) + 1 := h2.1
          have h2b : (k : Int) + 1 < (s.size : Int) := h2.2
          have HM := hide (show (k : Int) < (k : Int) + (m : Int) ∧ (k : Int) + (m : Int) ≤ (s.size : Int) by omega)
          have HMk := hide (show k + m ≤ s.size by omega)
          clear h2 hm2 hle hk1l
          go_wp2_with fail
          go_loopw [5] (fun i wr => ∃ j : Nat, k ≤ j ∧ j ≤ s.size ∧ i = .int .i64 (j : Int) ∧ Hid (RCutR w s.data.toList R k u4 wr) ∧ Hid (j + leadW lineN (s.data.toList.drop j) = k + m)) (fun i _ => s.size - (intOf i).toNat)
          case atStart => exact ⟨k, Nat.le_refl _, hk, rfl, HW, HI⟩
          case round =>
            obtain ⟨j, hkj, hjs, rfl, HW, HJ⟩ := hrel
            by_cases hj : j < s.size
            · have hjl : j < s.data.toList.length := by rw [unhide hl]; exact hj
              have hgj := bget hj hjl
              have h2 : (0 : Int) ≤ (j : Int) ∧ (j : Int) < (s.size : Int) := by omega
              cases hn : lineN (s.data.toList[j]).toNat
              · have hjE : j = k + m := by have := unhide HJ; rw [leadW_miss hjl hn] at this; omega
                have h10 : ((s.data.toList[j]).toNat : Int) = 10 := by
                  simp only [lineN, bne_eq_false_iff_eq] at hn
                  omega
                have HN := hide (unhide HW2 _ _ (unhide HW))
                have HMM := hide (show (k : Int) < (j : Int) ∧ (j : Int) ≤ (s.size : Int) by have := unhide HM; omega)
                rw [← hjE] at HN
                generalize s.data.toList[j] = dj at hgj h10
                have h10b : ((dj.toNat : Int) == 10) = true := beq_iff_eq.2 h10
                clear hn HJ HI HW2 HW hjE hkj
                go_wp2_with fail
                go_roundw
                case rel => exact ⟨j, hjs, rfl, HN⟩
                case measure => exact dec_m (unhide HMM).1 (unhide HMM).2
              · have HN : Hid ((j + 1) + leadW lineN (s.data.toList.drop (j + 1)) = k + m) := hide (by have := unhide HJ; rw [leadW_hit hjl hn] at this; omega)
                have HMj := hide (show (j : Int) < (j : Int) + 1 ∧ (j : Int) + 1 ≤ (s.size : Int) by omega)
                have h10 : ¬ ((s.data.toList[j]).toNat : Int) = 10 := by
                  simp only [lineN, bne_iff_ne] at hn
                  omega
                generalize s.data.toList[j] = dj at hgj h10
                have h10b : ((dj.toNat : Int) == 10) = false := beq_eq_false_iff_ne.2 h10
                clear hn HJ HI HW2
                go_wp2_with fail
                go_roundw
                case rel => exact ⟨j + 1, by omega, by omega, by first | rfl | go_num, HW, HN⟩
                case measure => exact dec_m (unhide HMj).1 (unhide HMj).2
            · have hjE : j = k + m := by
                have := unhide HJ
                rw [List.drop_eq_nil_of_le (by rw [unhide hl]; omega), leadW_nil] at this
                omega
              have h2 : ¬ (j : Int) < (s.size : Int) := by omega
              have HN := hide (unhide HW2 _ _ (unhide HW))
              have HMM := hide (show (k : Int) < (j : Int) ∧ (j : Int) ≤ (s.size : Int) by have := unhide HM; omega)
              rw [← hjE] at HN
              clear HJ HI HW2 HW hjE hkj hj
              go_wp2_with fail
              go_roundw
              case rel => exact ⟨j, hjs, rfl, HN⟩
              case measure => exact dec_m (unhide HMM).1 (unhide HMM).2
        · have hgap : Hid (gap (s.data.toList.drop k) = 0) := hide (by rw [unhide hdc]; exact gap_none (unhide hb) hrm)
          have hn47 : (¬ (c.toNat : Int) = 47) ∨ ((c.toNat : Int) = 47 ∧ (¬ (k + 1 < s.size) ∨ ∃ h : k + 1 < s.size, ∃ d : UInt8, s[k + 1]'h = d ∧ ¬ (d.toNat : Int) = 47)) := by
            by_cases h47 : (c.toNat : Int) = 47
            · refine Or.inr ⟨h47, ?_⟩
              by_cases hk1 : k + 1 < s.size
              · refine Or.inr ⟨hk1, _, rfl, fun e => hrm ⟨?_, ?_⟩⟩
                · exact UInt8.toNat_inj.1 (by show c.toNat = 47; omega)
                · have hk1l : k + 1 < s.data.toList.length := by rw [unhide hl]; exact hk1
                  rw [List.drop_eq_getElem_cons hk1l, List.head?_cons, ← bget hk1 hk1l]
                  exact congrArg some (UInt8.toNat_inj.1 (by show (s[k + 1]'hk1).toNat = 47; omega))
              · exact Or.inl hk1
            · exact Or.inl h47
          have hq0 : Hid (k < s.data.toList.length ∧ s.data.toList.length ≤ 1000000) := hide ⟨hkl, by rw [unhide hl]; omega⟩
          obtain ⟨ws, hws, hRR, hg0, hwl⟩ := unhide HW
          have BX := hide (bxs_new hws hg0 (k : Int))
          have HRW := hide (And.intro hRR hwl)
          clear hws hRR hwl hrm hb
          have BAD : Hid ((firstW (s.data.toList.drop k)).2 = 0 → ∀ wy, G w wy → RCutTo w R (.returned (.tuple #[.slice none 0 0, .int .i64 (k : Int)])) wy) := hide fun hz wy g => rc_bad (unhide HW) (unhide hq0).1 (unhide hgap) hz g
          have WRD : Hid (∀ (kd n b : Nat) (x : ByteArray) (wy : World), firstW (s.data.toList.drop k) = (kd, n) → n ≠ 0 → x = ⟨((s.data.toList.drop k).take n).toArray⟩ → BxS w u4 ws b (kd : Int) x (k : Int) wy →
              ∃ v' w4, (Builtin.append_ #[29, 29] 29 #[u4, .slice (some ⟨wy.heap.size, 0, none⟩) 1 1]).run Tryd.prog (wy.alloc (.cells #[.int .i64 (kd : Int), .string x, .int .i64 (k : Int)] 34)) = .ok v' w4 ∧ RCutR w s.data.toList R (k + n) v' w4) := hide fun kd n b x wy hf hn hx B =>
            rc_word (unhide HRW).1 (unhide HRW).2 (unhide hq0).1 (unhide hq0).2 (unhide hgap) hf hn hx B
          clear HW HRW hg0
          generalize hwb : wr.alloc (.cells #[.int .i64 0, .string ⟨#[]⟩, .int .i64 (k : Int)] 34) = wb at BX
          generalize hbb : wr.heap.size = bb at BX
          cases hL : letN c.toNat
          · cases hD : digN c.toNat
            · obtain ⟨n, hn⟩ : ∃ n, n = signN (s.data.toList.drop k) := ⟨_, rfl⟩
              have hnle := signN_le (s.data.toList.drop k)
              rw [← hn, List.length_drop, unhide hl] at hnle
              have hfw : firstW (s.data.toList.drop k) = (4, n) := by
                have h9 := unhide hdc
                rw [hn, h9]
                show (if letN c.toNat = true then _ else if digN c.toNat = true then _ else _) = _
                rw [if_neg (by rw [hL]; simp), if_neg (by rw [hD]; simp)]
              have SG : Hid (∀ wx, Calls Tryd.prog 18 #[.string (s.extract k s.size)] wx fun e w' => e = .returned (.string (s.extract k (k + n))) ∧ G wx w') := hide fun wx => by
                have h9 := rsign_any (s.extract k s.size) wx (by rw [ext_size]; omega)
                rw [ext_drop, ← hn] at h9
                have h8 : (s.extract k s.size).extract 0 n = s.extract k (k + n) := by
                  rw [Lib.extract_eq, ext_drop, List.drop_zero, Nat.sub_zero, Lib.extract_eq s, show k + n - k = n by omega]
                rwa [h8] at h9
              have hxe : s.extract k (k + n) = ⟨((s.data.toList.drop k).take n).toArray⟩ := by rw [Lib.extract_eq, show k + n - k = n by omega]
              have hys : (s.extract k (k + n)).size = n := by rw [Lib.size_eq, Lib.extract_data, List.length_take, List.length_drop, unhide hl]; omega
              have hyl : (s.extract k (k + n)).toList.length = n := by rw [Lib.toList_data, ← Lib.size_eq, hys]
              have A := hide (fun wx => letter_any c.toNat wx)
              have A2 := hide (fun wx => rdigit_any c.toNat wx)
              rw [hL] at A
              rw [hD] at A2
              have HX := hide (And.intro hxe hnle)
              have HFW := hide hfw
              have HB : Hid (n = 0 → ∀ wy, G w wy → RCutTo w R (.returned (.tuple #[.slice none 0 0, .int .i64 (k : Int)])) wy) := hide fun h wy g => unhide BAD (by rw [hfw]; exact h) wy g
              have HY : Hid ((n = 0 → (s.extract k (k + n)).toList.isEmpty = true) ∧ (n ≠ 0 → (s.extract k (k + n)).toList.isEmpty = false)) := hide ⟨fun h => by
                  rw [List.isEmpty_iff]
                  exact List.eq_nil_of_length_eq_zero (by rw [hyl, h]), fun h => by
                  rw [List.isEmpty_eq_false_iff]
                  intro e
                  rw [e] at hyl
                  exact h hyl.symm⟩
              have HYS := hide hys
              clear hn hfw hxe hyl hL hD hgap hdc BAD hnle hys hkl
              rcases hn47 with h47 | ⟨h47, h47n | ⟨hk1, d, hgd, hd47⟩⟩
              · have h47b : ((c.toNat : Int) == 47) = false := beq_eq_false_iff_ne.2 h47
                go_upto_region 17 with fail
                clear hwb hbb
                go_wp2_with fail
                refine (unhide A _).mono ?_
                rintro e wz ⟨rfl, hwz⟩
                subst hwz
                go_wp2_with fail
                refine (unhide A2 _).mono ?_
                rintro e wz0 ⟨rfl, hwz⟩
                subst hwz
                clear A A2
                go_upto_region 12 with fail
                go_wp2_with fail
                refine (unhide SG _).mono ?_
                rintro e wy0 ⟨rfl, gy⟩
                have BX1 := hide ((unhide BX).gr gy)
                clear SG BX gy
                by_cases hn0 : n = 0
                · have hy1 := (unhide HY).1 hn0
                  have FIN := hide (unhide HB hn0 wy0 (unhide BX1).g)
                  clear hn0 HB HY HFW HX WRD BX1
                  go_wp2_with fail
                  refine bodyPost_ret (by simp [results, Tryd.results10, go_sem]; try rfl) rfl ?_
                  exact unhide FIN
                · have hy1 := (unhide HY).2 hn0
                  have hne0 := hide hn0
                  have hnle := (unhide HX).2
                  have HM := hide (show (k : Int) < (k : Int) + (n : Int) ∧ (k : Int) + (n : Int) ≤ (s.size : Int) by omega)
                  have HMk := hide (show k + n ≤ s.size by omega)
                  have c0 := (unhide BX1).c0
                  have f0 := (unhide BX1).f0
                  have BX3 := hide ((unhide BX1).set0 4)
                  clear hn0 hnle HB HY
                  have hys := unhide HYS
                  go_upto_region 16 with fail
                  generalize wy0.setCell ⟨bb, 0, none⟩ (.int .i64 4) = wq at BX3 ⊢
                  clear c0 f0 BX1
                  have hkn := unhide HMk
                  have c1 := (unhide BX3).c1
                  have f1 := (unhide BX3).f1
                  have BX4 := hide ((unhide BX3).set1 (s.extract k (k + n)))
                  go_upto_region 32 with fail
                  generalize wq.setCell ⟨bb, 1, none⟩ (.string (s.extract k (k + n))) = wt at BX4 ⊢
                  clear c1 f1 BX3
                  obtain ⟨v', w4, hrun, HN⟩ := unhide WRD 4 n bb (s.extract k (k + n)) wt (unhide HFW) (unhide hne0) (unhide HX).1 (unhide BX4)
                  have HN2 := hide HN
                  have c0 := (unhide BX4).c0
                  have c1 := (unhide BX4).c1
                  have c2 := (unhide BX4).c2
                  clear HN BX4 WRD HFW HX hne0
                  go_wp2_with (at_builtin; refine wpl_run rfl (.tmp 138) (.tmp 140) 29 rfl _ _ rfl rfl _ _ hrun ?_; clear hrun)
                  go_roundw
                  case rel => exact ⟨k + n, unhide HMk, by first | rfl | go_num, HN2⟩
                  case measure => exact dec_m (unhide HM).1 (unhide HM).2
              · have h47b : ((c.toNat : Int) == 47) = true := beq_iff_eq.2 h47
                have hk1 : ¬ (k : Int) + 1 < (s.size : Int) := by omega
                clear h47n
                rw [h47] at A A2
                go_upto_region 17 with fail
                clear hwb hbb
                go_wp2_with fail
                refine (unhide A _).mono ?_
                rintro e wz ⟨rfl, hwz⟩
                subst hwz
                go_wp2_with fail
                refine (unhide A2 _).mono ?_
                rintro e wz0 ⟨rfl, hwz⟩
                subst hwz
                clear A A2
                go_upto_region 12 with fail
                go_wp2_with fail
                refine (unhide SG _).mono ?_
                rintro e wy0 ⟨rfl, gy⟩
                have BX1 := hide ((unhide BX).gr gy)
                clear SG BX gy
                by_cases hn0 : n = 0
                · have hy1 := (unhide HY).1 hn0
                  have FIN := hide (unhide HB hn0 wy0 (unhide BX1).g)
                  clear hn0 HB HY HFW HX WRD BX1
                  go_wp2_with fail
                  refine bodyPost_ret (by simp [results, Tryd.results10, go_sem]; try rfl) rfl ?_
                  exact unhide FIN
                · have hy1 := (unhide HY).2 hn0
                  have hne0 := hide hn0
                  have hnle := (unhide HX).2
                  have HM := hide (show (k : Int) < (k : Int) + (n : Int) ∧ (k : Int) + (n : Int) ≤ (s.size : Int) by omega)
                  have HMk := hide (show k + n ≤ s.size by omega)
                  have c0 := (unhide BX1).c0
                  have f0 := (unhide BX1).f0
                  have BX3 := hide ((unhide BX1).set0 4)
                  clear hn0 hnle HB HY
                  have hys := unhide HYS
                  go_upto_region 16 with fail
                  generalize wy0.setCell ⟨bb, 0, none⟩ (.int .i64 4) = wq at BX3 ⊢
                  clear c0 f0 BX1
                  have hkn := unhide HMk
                  have c1 := (unhide BX3).c1
                  have f1 := (unhide BX3).f1
                  have BX4 := hide ((unhide BX3).set1 (s.extract k (k + n)))
                  go_upto_region 32 with fail
                  generalize wq.setCell ⟨bb, 1, none⟩ (.string (s.extract k (k + n))) = wt at BX4 ⊢
                  clear c1 f1 BX3
                  obtain ⟨v', w4, hrun, HN⟩ := unhide WRD 4 n bb (s.extract k (k + n)) wt (unhide HFW) (unhide hne0) (unhide HX).1 (unhide BX4)
                  have HN2 := hide HN
                  have c0 := (unhide BX4).c0
                  have c1 := (unhide BX4).c1
                  have c2 := (unhide BX4).c2
                  clear HN BX4 WRD HFW HX hne0
                  go_wp2_with (at_builtin; refine wpl_run rfl (.tmp 138) (.tmp 140) 29 rfl _ _ rfl rfl _ _ hrun ?_; clear hrun)
                  go_roundw
                  case rel => exact ⟨k + n, unhide HMk, by first | rfl | go_num, HN2⟩
                  case measure => exact dec_m (unhide HM).1 (unhide HM).2
              · have h47b : ((c.toNat : Int) == 47) = true := beq_iff_eq.2 h47
                have hk2 : (k : Int) + 1 < (s.size : Int) := by omega
                have hk3 : (0 : Int) ≤ (k : Int) + 1 := by omega
                have hd48 : ((d.toNat : Int) == 47) = false := beq_eq_false_iff_ne.2 hd47
                rw [h47] at A A2
                go_upto_region 17 with fail
                clear hwb hbb
                go_wp2_with fail
                refine (unhide A _).mono ?_
                rintro e wz ⟨rfl, hwz⟩
                subst hwz
                go_wp2_with fail
                refine (unhide A2 _).mono ?_
                rintro e wz0 ⟨rfl, hwz⟩
                subst hwz
                clear A A2
                go_upto_region 12 with fail
                go_wp2_with fail
                refine (unhide SG _).mono ?_
                rintro e wy0 ⟨rfl, gy⟩
                have BX1 := hide ((unhide BX).gr gy)
                clear SG BX gy
                by_cases hn0 : n = 0
                · have hy1 := (unhide HY).1 hn0
                  have FIN := hide (unhide HB hn0 wy0 (unhide BX1).g)
                  clear hn0 HB HY HFW HX WRD BX1
                  go_wp2_with fail
                  refine bodyPost_ret (by simp [results, Tryd.results10, go_sem]; try rfl) rfl ?_
                  exact unhide FIN
                · have hy1 := (unhide HY).2 hn0
                  have hne0 := hide hn0
                  have hnle := (unhide HX).2
                  have HM := hide (show (k : Int) < (k : Int) + (n : Int) ∧ (k : Int) + (n : Int) ≤ (s.size : Int) by omega)
                  have HMk := hide (show k + n ≤ s.size by omega)
                  have c0 := (unhide BX1).c0
                  have f0 := (unhide BX1).f0
                  have BX3 := hide ((unhide BX1).set0 4)
                  clear hn0 hnle HB HY
                  have hys := unhide HYS
                  go_upto_region 16 with fail
                  generalize wy0.setCell ⟨bb, 0, none⟩ (.int .i64 4) = wq at BX3 ⊢
                  clear c0 f0 BX1
                  have hkn := unhide HMk
                  have c1 := (unhide BX3).c1
                  have f1 := (unhide BX3).f1
                  have BX4 := hide ((unhide BX3).set1 (s.extract k (k + n)))
                  go_upto_region 32 with fail
                  generalize wq.setCell ⟨bb, 1, none⟩ (.string (s.extract k (k + n))) = wt at BX4 ⊢
                  clear c1 f1 BX3
                  obtain ⟨v', w4, hrun, HN⟩ := unhide WRD 4 n bb (s.extract k (k + n)) wt (unhide HFW) (unhide hne0) (unhide HX).1 (unhide BX4)
                  have HN2 := hide HN
                  have c0 := (unhide BX4).c0
                  have c1 := (unhide BX4).c1
                  have c2 := (unhide BX4).c2
                  clear HN BX4 WRD HFW HX hne0
                  go_wp2_with (at_builtin; refine wpl_run rfl (.tmp 138) (.tmp 140) 29 rfl _ _ rfl rfl _ _ hrun ?_; clear hrun)
                  go_roundw
                  case rel => exact ⟨k + n, unhide HMk, by first | rfl | go_num, HN2⟩
                  case measure => exact dec_m (unhide HM).1 (unhide HM).2
            · obtain ⟨E, hE⟩ : ∃ E, E = k + leadW digN (s.data.toList.drop k) := ⟨_, rfl⟩
              have hEle := leadW_le digN (s.data.toList.drop k)
              rw [List.length_drop, unhide hl] at hEle
              have hpc : digN c.toNat = true := hD
              have hE1 : k + 1 ≤ E := by
                rw [hE, unhide hdc]
                simp only [leadW, hpc, if_true]
                omega
              have hE2 : E ≤ s.size := by omega
              have HI : Hid (k + leadW digN (s.data.toList.drop k) = E) := hide hE.symm
              have hEm : E - k = leadW digN (s.data.toList.drop k) := by omega
              have hxd : (s.extract k E).data.toList = (s.data.toList.drop k).take (E - k) := by rw [Lib.extract_data]
              have hxe : s.extract k E = ⟨((s.data.toList.drop k).take (E - k)).toArray⟩ := by rw [Lib.extract_eq]
              have hne0 : E - k ≠ 0 := by omega
              have HM := hide (show (k : Int) < (E : Int) ∧ (E : Int) ≤ (s.size : Int) by omega)
              have HX := hide (And.intro hxe (And.intro hne0 (And.intro hE1 hE2)))
              have hD2 := hD
              have h47 : ¬ (c.toNat : Int) = 47 := by
                simp only [digN, Bool.and_eq_true, decide_eq_true_eq] at hD
                omega
              have hfw : firstW (s.data.toList.drop k) = numW (s.extract k E).data.toList := by
                rw [hxd, hEm]
                have h9 := unhide hdc
                rw [h9]
                show (if letN c.toNat = true then _ else if digN c.toNat = true then _ else _) = _
                rw [if_neg (by rw [hL]; simp), if_pos hD2]
              have hxl : (s.extract k E).data.toList.length = E - k := by rw [hxd, List.length_take, List.length_drop, unhide hl]; omega
              have hall := leadW_all (p := digN) (l := s.data.toList.drop k)
              have hxs : (s.extract k E).size = E - k := by rw [Lib.size_eq, hxl]
              have RF := hide (fun wx => rfits_any (s.extract k E) wx (by omega) (by
                rw [hxd, hEm]
                intro d hd
                have := hall d hd
                simp only [digN, Bool.and_eq_true, decide_eq_true_eq] at this
                exact this))
              have FB : Hid (fitsP (s.extract k E).data.toList = false → (firstW (s.data.toList.drop k)).2 = 0) := hide fun h => by
                rw [hfw, numW, if_neg (by rw [h]; simp)]
              have F3 : Hid (fitsP (s.extract k E).data.toList = true → firstW (s.data.toList.drop k) = (3, E - k)) := hide fun h => by
                rw [hfw, numW, if_pos h, hxl]
              have A := hide (fun wx => letter_any c.toNat wx)
              have A2 := hide (fun wx => rdigit_any c.toNat wx)
              rw [hL] at A
              rw [hD2] at A2
              obtain ⟨kq, hkq⟩ : ∃ kq, kq = fitsP (s.extract k E).data.toList := ⟨_, rfl⟩
              rw [← hkq] at RF FB F3
              have h47b : ((c.toNat : Int) == 47) = false := beq_eq_false_iff_ne.2 h47
              clear hkq hxl hxs hall hfw hL hD hD2 hE hEle hpc hEm hxd hgap hdc hn47 hxe hne0 hE1 hE2
              go_upto_region 17 with fail
              clear hwb hbb
              go_wp2_with fail
              refine (unhide A _).mono ?_
              rintro e wz ⟨rfl, hwz⟩
              subst hwz
              go_wp2_with fail
              refine (unhide A2 _).mono ?_
              rintro e wz0 ⟨rfl, hwz⟩
              subst hwz
              clear A A2
              go_wp2_with fail
              go_loopw [7] (fun i wr => ∃ j : Nat, k ≤ j ∧ j ≤ s.size ∧ i = .int .i64 (j : Int) ∧ Hid (BxS w u4 ws bb 0 ⟨#[]⟩ (k : Int) wr) ∧ Hid (j + leadW digN (s.data.toList.drop j) = E)) (fun i _ => s.size - (intOf i).toNat)
              case atStart => exact ⟨k, Nat.le_refl _, hk, rfl, BX, HI⟩
              case round =>
                obtain ⟨j, hkj, hjs, rfl, BX, HJ⟩ := hrel
                by_cases hj : j < s.size
                · have hjl : j < s.data.toList.length := by rw [unhide hl]; exact hj
                  have hgj := bget hj hjl
                  have B := hide (fun wx => rdigit_any (s.data.toList[j]).toNat wx)
                  have h2 : (0 : Int) ≤ (j : Int) ∧ (j : Int) < (s.size : Int) := by omega
                  cases hn : digN (s.data.toList[j]).toNat
                  · have hjE : E = j := by have := unhide HJ; rw [leadW_miss hjl hn] at this; omega
                    subst hjE
                    rw [hn] at B
                    generalize s.data.toList[E] = d at hgj B
                    clear hn HJ HI
                    go_wp2_with fail
                    refine (unhide B _).mono ?_
                    rintro e wz2 ⟨rfl, hwz⟩
                    subst hwz
                    clear B hgj h2
                    have c0 := (unhide BX).c0
                    have f0 := (unhide BX).f0
                    generalize hwy : wz2 = wy0 at BX c0 f0 ⊢
                    clear hwy
                    have BX3 := hide ((unhide BX).set0 3)
                    go_upto_region 29 with fail
                    generalize wy0.setCell ⟨bb, 0, none⟩ (.int .i64 3) = wq at BX3 ⊢
                    clear c0 f0 BX
                    have h3a : (k : Int) ≤ (E : Int) := Int.le_of_lt (unhide HM).1
                    have h3b : (E : Int) ≤ (s.size : Int) := (unhide HM).2
                    clear hkj hjs
                    go_wp2_with fail
                    refine (unhide RF _).mono ?_
                    rintro e wz3 ⟨rfl, hwz3⟩
                    subst hwz3
                    generalize hwy : wz3 = wq at BX3 ⊢
                    clear hwy RF
                    cases kq
                    · have FIN := hide (unhide BAD (unhide FB (by first | rfl | trivial)) wq (unhide BX3).g)
                      clear BX3 WRD BAD FB F3
                      go_wp2_with fail
                      refine bodyPost_ret (by simp [results, Tryd.results10, go_sem]; try rfl) rfl ?_
                      exact unhide FIN
                    · have FW := hide (unhide F3 (by first | rfl | trivial))
                      clear F3 FB
                      have c1 := (unhide BX3).c1
                      have f1 := (unhide BX3).f1
                      have BX4 := hide ((unhide BX3).set1 (s.extract k E))
                      go_upto_region 32 with fail
                      generalize wq.setCell ⟨bb, 1, none⟩ (.string (s.extract k E)) = wt at BX4 ⊢
                      clear c1 f1 BX3
                      obtain ⟨hxe, hne0, hE1, hE2⟩ := unhide HX
                      obtain ⟨v', w4, hrun, HN⟩ := unhide WRD 3 (E - k) bb (s.extract k E) wt (unhide FW) hne0 hxe (unhide BX4)
                      rw [show k + (E - k) = E by omega] at HN
                      clear hxe hne0 hE1 hE2
                      have HN2 := hide HN
                      have c0 := (unhide BX4).c0
                      have c1 := (unhide BX4).c1
                      have c2 := (unhide BX4).c2
                      clear HN BX4 WRD BAD FW
                      go_wp2_with (at_builtin; refine wpl_run rfl (.tmp 138) (.tmp 140) 29 rfl _ _ rfl rfl _ _ hrun ?_; clear hrun)
                      go_roundw
                      case rel => exact ⟨E, (unhide HX).2.2.2, by first | rfl | go_num, HN2⟩
                      case measure => exact dec_m (unhide HM).1 (unhide HM).2
                  · have HN : Hid ((j + 1) + leadW digN (s.data.toList.drop (j + 1)) = E) := hide (by have := unhide HJ; rw [leadW_hit hjl hn] at this; omega)
                    have HMj := hide (show (j : Int) < (j : Int) + 1 ∧ (j : Int) + 1 ≤ (s.size : Int) by omega)
                    rw [hn] at B
                    generalize s.data.toList[j] = d at hgj B
                    clear hn HJ HI WRD BAD RF
                    go_wp2_with fail
                    refine (unhide B _).mono ?_
                    rintro e wz2 ⟨rfl, hwz⟩
                    subst hwz
                    go_wp2_with fail
                    go_roundw
                    case rel => exact ⟨j + 1, by omega, by omega, by first | rfl | go_num, BX, HN⟩
                    case measure => exact dec_m (unhide HMj).1 (unhide HMj).2
                · have hjE : E = j := by
                    have := unhide HJ
                    rw [List.drop_eq_nil_of_le (by rw [unhide hl]; omega), leadW_nil] at this
                    omega
                  subst hjE
                  have h2 : ¬ (E : Int) < (s.size : Int) := by omega
                  clear HJ HI hj
                  have c0 := (unhide BX).c0
                  have f0 := (unhide BX).f0
                  generalize hwy : wr = wy0 at BX c0 f0 ⊢
                  clear hwy
                  have BX3 := hide ((unhide BX).set0 3)
                  go_upto_region 29 with fail
                  generalize wy0.setCell ⟨bb, 0, none⟩ (.int .i64 3) = wq at BX3 ⊢
                  clear c0 f0 BX
                  have h3a : (k : Int) ≤ (E : Int) := Int.le_of_lt (unhide HM).1
                  have h3b : (E : Int) ≤ (s.size : Int) := (unhide HM).2
                  clear hkj hjs
                  go_wp2_with fail
                  refine (unhide RF _).mono ?_
                  rintro e wz3 ⟨rfl, hwz3⟩
                  subst hwz3
                  generalize hwy : wz3 = wq at BX3 ⊢
                  clear hwy RF
                  cases kq
                  · have FIN := hide (unhide BAD (unhide FB (by first | rfl | trivial)) wq (unhide BX3).g)
                    clear BX3 WRD BAD FB F3
                    go_wp2_with fail
                    refine bodyPost_ret (by simp [results, Tryd.results10, go_sem]; try rfl) rfl ?_
                    exact unhide FIN
                  · have FW := hide (unhide F3 (by first | rfl | trivial))
                    clear F3 FB
                    have c1 := (unhide BX3).c1
                    have f1 := (unhide BX3).f1
                    have BX4 := hide ((unhide BX3).set1 (s.extract k E))
                    go_upto_region 32 with fail
                    generalize wq.setCell ⟨bb, 1, none⟩ (.string (s.extract k E)) = wt at BX4 ⊢
                    clear c1 f1 BX3
                    obtain ⟨hxe, hne0, hE1, hE2⟩ := unhide HX
                    obtain ⟨v', w4, hrun, HN⟩ := unhide WRD 3 (E - k) bb (s.extract k E) wt (unhide FW) hne0 hxe (unhide BX4)
                    rw [show k + (E - k) = E by omega] at HN
                    clear hxe hne0 hE1 hE2
                    have HN2 := hide HN
                    have c0 := (unhide BX4).c0
                    have c1 := (unhide BX4).c1
                    have c2 := (unhide BX4).c2
                    clear HN BX4 WRD BAD FW
                    go_wp2_with (at_builtin; refine wpl_run rfl (.tmp 138) (.tmp 140) 29 rfl _ _ rfl rfl _ _ hrun ?_; clear hrun)
                    go_roundw
                    case rel => exact ⟨E, (unhide HX).2.2.2, by first | rfl | go_num, HN2⟩
                    case measure => exact dec_m (unhide HM).1 (unhide HM).2
          · obtain ⟨E, hE⟩ : ∃ E, E = k + leadW nmN (s.data.toList.drop k) := ⟨_, rfl⟩
            have hEle := leadW_le nmN (s.data.toList.drop k)
            rw [List.length_drop, unhide hl] at hEle
            have hpc : nmN c.toNat = true := by simp [nmN, hL]
            have hE1 : k + 1 ≤ E := by
              rw [hE, unhide hdc]
              simp only [leadW, hpc, if_true]
              omega
            have hE2 : E ≤ s.size := by omega
            have HI : Hid (k + leadW nmN (s.data.toList.drop k) = E) := hide hE.symm
            have hEm : E - k = leadW nmN (s.data.toList.drop k) := by omega
            have hxd : (s.extract k E).data.toList = (s.data.toList.drop k).take (E - k) := by rw [Lib.extract_data]
            have hxe : s.extract k E = ⟨((s.data.toList.drop k).take (E - k)).toArray⟩ := by rw [Lib.extract_eq]
            have hne0 : E - k ≠ 0 := by omega
            have HM := hide (show (k : Int) < (E : Int) ∧ (E : Int) ≤ (s.size : Int) by omega)
            have HX := hide (And.intro hxe (And.intro hne0 (And.intro hE1 hE2)))
            have hL2 := hL
            have h47 : ¬ (c.toNat : Int) = 47 := by
              simp only [letN, Bool.or_eq_true, beq_iff_eq, Bool.and_eq_true, decide_eq_true_eq] at hL
              omega
            have hxl : (s.extract k E).data.toList.length = E - k := by rw [hxd, List.length_take, List.length_drop, unhide hl]; omega
            have hfw : firstW (s.data.toList.drop k) = nameW (s.extract k E).data.toList := by
              rw [hxd, hEm]
              have h9 := unhide hdc
              rw [h9]
              show (if letN c.toNat = true then _ else _) = _
              rw [if_pos hL2]
            have FB : Hid (64 < E - k → (firstW (s.data.toList.drop k)).2 = 0) := hide fun h => by
              rw [hfw, nameW, if_pos (by rw [hxl]; exact h)]
            have F2 : Hid (¬ 64 < E - k → keptP (s.extract k E).data.toList = true → firstW (s.data.toList.drop k) = (2, E - k)) := hide fun h h2 => by
              rw [hfw, nameW, if_neg (by rw [hxl]; exact h), if_pos h2, hxl]
            have F1 : Hid (¬ 64 < E - k → keptP (s.extract k E).data.toList = false → firstW (s.data.toList.drop k) = (1, E - k)) := hide fun h h2 => by
              rw [hfw, nameW, if_neg (by rw [hxl]; exact h), if_neg (by rw [h2]; simp), hxl]
            have A := hide (fun wx => letter_any c.toNat wx)
            rw [hL2] at A
            have KP := hide (fun wx => rkept_any (s.extract k E) wx)
            obtain ⟨kq, hkq⟩ : ∃ kq, kq = keptP (s.extract k E).data.toList := ⟨_, rfl⟩
            rw [← hkq] at KP F1 F2
            clear hkq hxl hfw hL hL2 hE hEle hpc hEm hxd hgap hdc hn47 hxe hne0 hE1 hE2
            have h47b : ((c.toNat : Int) == 47) = false := beq_eq_false_iff_ne.2 h47
            go_upto_region 17 with fail
            clear hwb hbb
            go_wp2_with fail
            refine (unhide A _).mono ?_
            rintro e wz ⟨rfl, hwz⟩
            subst hwz
            clear A
            go_wp2_with fail
            go_loopw [7] (fun i wr => ∃ j : Nat, k ≤ j ∧ j ≤ s.size ∧ i = .int .i64 (j : Int) ∧ Hid (BxS w u4 ws bb 0 ⟨#[]⟩ (k : Int) wr) ∧ Hid (j + leadW nmN (s.data.toList.drop j) = E)) (fun i _ => s.size - (intOf i).toNat)
            case atStart => exact ⟨k, Nat.le_refl _, hk, rfl, BX, HI⟩
            case round =>
              obtain ⟨j, hkj, hjs, rfl, BX, HJ⟩ := hrel
              by_cases hj : j < s.size
              · have hjl : j < s.data.toList.length := by rw [unhide hl]; exact hj
                have hgj := bget hj hjl
                cases hn : nmN (s.data.toList[j]).toNat
                · have hjE : E = j := by have := unhide HJ; rw [leadW_miss hjl hn] at this; omega
                  subst hjE
                  have hnl : letN (s.data.toList[E]).toNat = false := by simp only [nmN, Bool.or_eq_false_iff] at hn; exact hn.1
                  have hnd : digN (s.data.toList[E]).toNat = false := by simp only [nmN, Bool.or_eq_false_iff] at hn; exact hn.2
                  have A := hide (fun wx => letter_any (s.data.toList[E]).toNat wx)
                  have B := hide (fun wx => rdigit_any (s.data.toList[E]).toNat wx)
                  rw [hnl] at A
                  rw [hnd] at B
                  have h2 : (0 : Int) ≤ (E : Int) ∧ (E : Int) < (s.size : Int) := by omega
                  generalize s.data.toList[E] = d at hgj A B
                  clear hn hnl hnd HJ HI
                  go_wp2_with fail
                  refine (unhide A _).mono ?_
                  rintro e wz ⟨rfl, hwz⟩
                  subst hwz
                  go_wp2_with fail
                  refine (unhide B _).mono ?_
                  rintro e wz2 ⟨rfl, hwz⟩
                  subst hwz
                  clear A B hgj h2
                  have c0 := (unhide BX).c0
                  have f0 := (unhide BX).f0
                  generalize hwy : wz2 = wy0 at BX c0 f0 ⊢
                  clear hwy
                  have BX1 := hide ((unhide BX).set0 1)
                  go_upto_region 21 with fail
                  generalize wy0.setCell ⟨bb, 0, none⟩ (.int .i64 1) = wy at BX1 ⊢
                  clear c0 f0 BX
                  have h3a : (k : Int) ≤ (E : Int) := Int.le_of_lt (unhide HM).1
                  have h3b : (E : Int) ≤ (s.size : Int) := (unhide HM).2
                  clear hkj hjs
                  go_wp2_with fail
                  refine (unhide KP _).mono ?_
                  rintro e wz3 ⟨rfl, g3⟩
                  have BX2 := hide ((unhide BX1).gr g3)
                  clear BX1 g3 KP
                  cases kq
                  · have BX3 := BX2
                    clear BX2 F2
                    generalize wz3 = wq at BX3 ⊢
                    have hE1 := (unhide HX).2.2.1
                    by_cases h64 : 64 < E - k
                    · have h65 : (64 : Int) < (E : Int) - (k : Int) := by omega
                      clear hE1
                      have FIN := hide (unhide BAD (unhide FB h64) wq (unhide BX3).g)
                      clear BX3 WRD BAD FB F1 h64
                      go_wp2_with fail
                      refine bodyPost_ret (by simp [results, Tryd.results10, go_sem]; try rfl) rfl ?_
                      exact unhide FIN
                    · have h65 : ¬ (64 : Int) < (E : Int) - (k : Int) := by omega
                      clear hE1
                      have FW := hide (unhide F1 h64 (by first | rfl | trivial))
                      clear F1 FB h64
                      have c1 := (unhide BX3).c1
                      have f1 := (unhide BX3).f1
                      have BX4 := hide ((unhide BX3).set1 (s.extract k E))
                      go_upto_region 32 with fail
                      generalize wq.setCell ⟨bb, 1, none⟩ (.string (s.extract k E)) = wt at BX4 ⊢
                      clear c1 f1 BX3
                      obtain ⟨hxe, hne0, hE1, hE2⟩ := unhide HX
                      obtain ⟨v', w4, hrun, HN⟩ := unhide WRD 1 (E - k) bb (s.extract k E) wt (unhide FW) hne0 hxe (unhide BX4)
                      rw [show k + (E - k) = E by omega] at HN
                      clear hxe hne0 hE1 hE2
                      have HN2 := hide HN
                      have c0 := (unhide BX4).c0
                      have c1 := (unhide BX4).c1
                      have c2 := (unhide BX4).c2
                      clear HN BX4 WRD BAD FW
                      go_wp2_with (at_builtin; refine wpl_run rfl (.tmp 138) (.tmp 140) 29 rfl _ _ rfl rfl _ _ hrun ?_; clear hrun)
                      go_roundw
                      case rel => exact ⟨E, (unhide HX).2.2.2, by first | rfl | go_num, HN2⟩
                      case measure => exact dec_m (unhide HM).1 (unhide HM).2
                  · have c0 := (unhide BX2).c0
                    have f0 := (unhide BX2).f0
                    have BX3 := hide ((unhide BX2).set0 2)
                    go_upto_region 23 with fail
                    generalize wz3.setCell ⟨bb, 0, none⟩ (.int .i64 2) = wq at BX3 ⊢
                    clear c0 f0 BX2 F1
                    have hE1 := (unhide HX).2.2.1
                    by_cases h64 : 64 < E - k
                    · have h65 : (64 : Int) < (E : Int) - (k : Int) := by omega
                      clear hE1
                      have FIN := hide (unhide BAD (unhide FB h64) wq (unhide BX3).g)
                      clear BX3 WRD BAD FB F2 h64
                      go_wp2_with fail
                      refine bodyPost_ret (by simp [results, Tryd.results10, go_sem]; try rfl) rfl ?_
                      exact unhide FIN
                    · have h65 : ¬ (64 : Int) < (E : Int) - (k : Int) := by omega
                      clear hE1
                      have FW := hide (unhide F2 h64 (by first | rfl | trivial))
                      clear F2 FB h64
                      have c1 := (unhide BX3).c1
                      have f1 := (unhide BX3).f1
                      have BX4 := hide ((unhide BX3).set1 (s.extract k E))
                      go_upto_region 32 with fail
                      generalize wq.setCell ⟨bb, 1, none⟩ (.string (s.extract k E)) = wt at BX4 ⊢
                      clear c1 f1 BX3
                      obtain ⟨hxe, hne0, hE1, hE2⟩ := unhide HX
                      obtain ⟨v', w4, hrun, HN⟩ := unhide WRD 2 (E - k) bb (s.extract k E) wt (unhide FW) hne0 hxe (unhide BX4)
                      rw [show k + (E - k) = E by omega] at HN
                      clear hxe hne0 hE1 hE2
                      have HN2 := hide HN
                      have c0 := (unhide BX4).c0
                      have c1 := (unhide BX4).c1
                      have c2 := (unhide BX4).c2
                      clear HN BX4 WRD BAD FW
                      go_wp2_with (at_builtin; refine wpl_run rfl (.tmp 138) (.tmp 140) 29 rfl _ _ rfl rfl _ _ hrun ?_; clear hrun)
                      go_roundw
                      case rel => exact ⟨E, (unhide HX).2.2.2, by first | rfl | go_num, HN2⟩
                      case measure => exact dec_m (unhide HM).1 (unhide HM).2
                · have HN : Hid ((j + 1) + leadW nmN (s.data.toList.drop (j + 1)) = E) := hide (by have := unhide HJ; rw [leadW_hit hjl hn] at this; omega)
                  have A := hide (fun wx => letter_any (s.data.toList[j]).toNat wx)
                  have B := hide (fun wx => rdigit_any (s.data.toList[j]).toNat wx)
                  have h2 : (0 : Int) ≤ (j : Int) ∧ (j : Int) < (s.size : Int) := by omega
                  have HMj := hide (show (j : Int) < (j : Int) + 1 ∧ (j : Int) + 1 ≤ (s.size : Int) by omega)
                  cases hnl : letN (s.data.toList[j]).toNat
                  · have hnd : digN (s.data.toList[j]).toNat = true := by rw [nmN, hnl, Bool.false_or] at hn; exact hn
                    rw [hnl] at A
                    rw [hnd] at B
                    generalize s.data.toList[j] = d at hgj A B
                    clear hn hnl hnd HJ HI WRD BAD KP
                    go_wp2_with fail
                    refine (unhide A _).mono ?_
                    rintro e wz ⟨rfl, hwz⟩
                    subst hwz
                    go_wp2_with fail
                    refine (unhide B _).mono ?_
                    rintro e wz2 ⟨rfl, hwz⟩
                    subst hwz
                    go_wp2_with fail
                    go_roundw
                    case rel => exact ⟨j + 1, by omega, by omega, by first | rfl | go_num, BX, HN⟩
                    case measure => exact dec_m (unhide HMj).1 (unhide HMj).2
                  · rw [hnl] at A
                    generalize s.data.toList[j] = d at hgj A B
                    clear hn hnl HJ HI WRD BAD KP B
                    go_wp2_with fail
                    refine (unhide A _).mono ?_
                    rintro e wz ⟨rfl, hwz⟩
                    subst hwz
                    go_wp2_with fail
                    go_roundw
                    case rel => exact ⟨j + 1, by omega, by omega, by first | rfl | go_num, BX, HN⟩
                    case measure => exact dec_m (unhide HMj).1 (unhide HMj).2
              · have hjE : E = j := by
                  have := unhide HJ
                  rw [List.drop_eq_nil_of_le (by rw [unhide hl]; omega), leadW_nil] at this
                  omega
                subst hjE
                have h2 : ¬ (E : Int) < (s.size : Int) := by omega
                clear HJ HI hj
                have c0 := (unhide BX).c0
                have f0 := (unhide BX).f0
                generalize hwy : wr = wy0 at BX c0 f0 ⊢
                clear hwy
                have BX1 := hide ((unhide BX).set0 1)
                go_upto_region 21 with fail
                generalize wy0.setCell ⟨bb, 0, none⟩ (.int .i64 1) = wy at BX1 ⊢
                clear c0 f0 BX
                have h3a : (k : Int) ≤ (E : Int) := Int.le_of_lt (unhide HM).1
                have h3b : (E : Int) ≤ (s.size : Int) := (unhide HM).2
                clear hkj hjs
                go_wp2_with fail
                refine (unhide KP _).mono ?_
                rintro e wz3 ⟨rfl, g3⟩
                have BX2 := hide ((unhide BX1).gr g3)
                clear BX1 g3 KP
                cases kq
                · have BX3 := BX2
                  clear BX2 F2
                  generalize wz3 = wq at BX3 ⊢
                  have hE1 := (unhide HX).2.2.1
                  by_cases h64 : 64 < E - k
                  · have h65 : (64 : Int) < (E : Int) - (k : Int) := by omega
                    clear hE1
                    have FIN := hide (unhide BAD (unhide FB h64) wq (unhide BX3).g)
                    clear BX3 WRD BAD FB F1 h64
                    go_wp2_with fail
                    refine bodyPost_ret (by simp [results, Tryd.results10, go_sem]; try rfl) rfl ?_
                    exact unhide FIN
                  · have h65 : ¬ (64 : Int) < (E : Int) - (k : Int) := by omega
                    clear hE1
                    have FW := hide (unhide F1 h64 (by first | rfl | trivial))
                    clear F1 FB h64
                    have c1 := (unhide BX3).c1
                    have f1 := (unhide BX3).f1
                    have BX4 := hide ((unhide BX3).set1 (s.extract k E))
                    go_upto_region 32 with fail
                    generalize wq.setCell ⟨bb, 1, none⟩ (.string (s.extract k E)) = wt at BX4 ⊢
                    clear c1 f1 BX3
                    obtain ⟨hxe, hne0, hE1, hE2⟩ := unhide HX
                    obtain ⟨v', w4, hrun, HN⟩ := unhide WRD 1 (E - k) bb (s.extract k E) wt (unhide FW) hne0 hxe (unhide BX4)
                    rw [show k + (E - k) = E by omega] at HN
                    clear hxe hne0 hE1 hE2
                    have HN2 := hide HN
                    have c0 := (unhide BX4).c0
                    have c1 := (unhide BX4).c1
                    have c2 := (unhide BX4).c2
                    clear HN BX4 WRD BAD FW
                    go_wp2_with (at_builtin; refine wpl_run rfl (.tmp 138) (.tmp 140) 29 rfl _ _ rfl rfl _ _ hrun ?_; clear hrun)
                    go_roundw
                    case rel => exact ⟨E, (unhide HX).2.2.2, by first | rfl | go_num, HN2⟩
                    case measure => exact dec_m (unhide HM).1 (unhide HM).2
                · have c0 := (unhide BX2).c0
                  have f0 := (unhide BX2).f0
                  have BX3 := hide ((unhide BX2).set0 2)
                  go_upto_region 23 with fail
                  generalize wz3.setCell ⟨bb, 0, none⟩ (.int .i64 2) = wq at BX3 ⊢
                  clear c0 f0 BX2 F1
                  have hE1 := (unhide HX).2.2.1
                  by_cases h64 : 64 < E - k
                  · have h65 : (64 : Int) < (E : Int) - (k : Int) := by omega
                    clear hE1
                    have FIN := hide (unhide BAD (unhide FB h64) wq (unhide BX3).g)
                    clear BX3 WRD BAD FB F2 h64
                    go_wp2_with fail
                    refine bodyPost_ret (by simp [results, Tryd.results10, go_sem]; try rfl) rfl ?_
                    exact unhide FIN
                  · have h65 : ¬ (64 : Int) < (E : Int) - (k : Int) := by omega
                    clear hE1
                    have FW := hide (unhide F2 h64 (by first | rfl | trivial))
                    clear F2 FB h64
                    have c1 := (unhide BX3).c1
                    have f1 := (unhide BX3).f1
                    have BX4 := hide ((unhide BX3).set1 (s.extract k E))
                    go_upto_region 32 with fail
                    generalize wq.setCell ⟨bb, 1, none⟩ (.string (s.extract k E)) = wt at BX4 ⊢
                    clear c1 f1 BX3
                    obtain ⟨hxe, hne0, hE1, hE2⟩ := unhide HX
                    obtain ⟨v', w4, hrun, HN⟩ := unhide WRD 2 (E - k) bb (s.extract k E) wt (unhide FW) hne0 hxe (unhide BX4)
                    rw [show k + (E - k) = E by omega] at HN
                    clear hxe hne0 hE1 hE2
                    have HN2 := hide HN
                    have c0 := (unhide BX4).c0
                    have c1 := (unhide BX4).c1
                    have c2 := (unhide BX4).c2
                    clear HN BX4 WRD BAD FW
                    go_wp2_with (at_builtin; refine wpl_run rfl (.tmp 138) (.tmp 140) 29 rfl _ _ rfl rfl _ _ hrun ?_; clear hrun)
                    go_roundw
                    case rel => exact ⟨E, (unhide HX).2.2.2, by first | rfl | go_num, HN2⟩
                    case measure => exact dec_m (unhide HM).1 (unhide HM).2
      · have HN : Hid (∀ (v : Value) (wx : World), RCutR w s.data.toList R k v wx → RCutR w s.data.toList R (k + 1) v wx) := hide fun v wx h => rc_gap h 1 (by rw [unhide hdc]; simp) (by rw [unhide hdc, gap_blank hb]; simp)
        have HW2 := hide (unhide HN _ _ (unhide HW))
        have HM := hide (show (k : Int) < (k : Int) + 1 ∧ (k : Int) + 1 ≤ (s.size : Int) by omega)
        have hb4 : (c.toNat : Int) = 32 ∨ (c.toNat : Int) = 9 ∨ (c.toNat : Int) = 10 ∨ (c.toNat : Int) = 13 := by
          simp only [blankN, Bool.or_eq_true, beq_iff_eq] at hb
          omega
        clear HN HW hb hdc
        rcases hb4 with h | h | h | h
        all_goals
          go_wp2_with fail
          go_roundw
          case rel => exact ⟨k + 1, by omega, by first | rfl | go_num, HW2⟩
          case measure => exact dec_m (unhide HM).1 (unhide HM).2
    · obtain rfl : k = s.size := by omega
      obtain ⟨ws, hws, hRR, hg, hwl⟩ := unhide HW
      have hend := cutL_end (l := s.data.toList.drop s.size) (o := s.size) (by rw [List.drop_eq_nil_of_le (by rw [unhide hl]; exact Nat.le_refl _)]; exact gap_nil)
      rw [List.length_drop, unhide hl, Nat.sub_self, Nat.add_zero] at hend
      obtain ⟨i, hi, hz, hsz, hby⟩ := info_parts info_rword
      obtain ⟨v', w4, hrun, r2, r3⟩ := own_word Tryd.underlying29 hi hz hsz hby hws hg.size (by omega) 0 s.size ⟨#[]⟩ [] rfl
      have HEND : Hid (RCutTo w R (.returned (.tuple #[v', .int .i64 (-1)])) w4) := hide ⟨Below.trans hg r3, Or.inr ⟨by rw [hRR, hend], v', rfl, by rw [hRR, hend]; exact r2⟩⟩
      have h1 : ¬ (s.size : Int) < (s.size : Int) := by omega
      have hrun : (Builtin.append_ #[29, 29] 29 #[u4, .slice (some ⟨wr.heap.size, 0, none⟩) 1 1]).run Tryd.prog (wr.alloc (.cells #[.int .i64 0, .string ⟨#[]⟩, .int .i64 (s.size : Int)] 34)) = .ok v' w4 := hrun
      clear hws hRR hg hwl hend hi hz hsz hby r2 r3 hlt HW hl
      go_wp2_with (at_builtin; refine wpl_run rfl (.tmp 143) (.tmp 147) 29 rfl _ _ rfl rfl _ _ hrun ?_; clear hrun)
      refine bodyPost_ret (by simp [results, Tryd.results10, go_sem]; try rfl) rfl ?_
      exact unhide HEND
end Go.Proofs.YtodfcmmdnobdhaaDoor
