/- The program's parser: row's walk. -/
import Derived.Test.YtablincnlfbjnabDoorPaRow
namespace Go.Proofs.YtablincnlfbjnabDoor
set_option maxRecDepth 100000
open Go.RowKit Go.Maps Go.ChangeShapes Go.WideShapes Go.ChangeAt Go.Deep

theorem ntStr_ne (n : Nt) (h : isPart n = true) : (ntStr n == [78, 65, 77, 69]) = false ∧ (ntStr n == [78, 85, 77, 66, 69, 82]) = false ∧ (ntStr n == [83, 73, 71, 78]) = false ∧ (ntStr n == [97, 114, 103, 115]) = false := by
  cases n <;> first | (cases h; done) | decide
theorem nf_0 (w : World) : (binOp .neq 39 .nilFunc .nilFunc).run Tryd.prog w = .ok (.bool false) w := by kernel_rfl
theorem nf_1 (f : Fn) (p : Value) (w : World) : (binOp .neq 39 (.func f #[p] #[]) .nilFunc).run Tryd.prog w = .ok (.bool true) w := by kernel_rfl
theorem dec_1 {n j : Nat} (h : j < n) : n - (intOf (.int .i64 ((j : Int) + 1))).toNat < n - (intOf (.int .i64 (j : Int))).toNat := by
  show n - ((j : Int) + 1).toNat < n - (j : Int).toNat
  omega
set_option maxHeartbeats 16000000 in
theorem row_any {rb wb wc : Nat} {ws : List Wd} {R : Nt → PS → Tt × PS} {s0 : PS} {y : World} {S : Nat → Prop} {kv0 : Value} {ks0 : List Tt} (h : RSt rb wb wc ws s0 y) (kd : List UInt8) (fs : List Fd) (wr : ByteArray) (hwr : Lib.fields wr.data.toList = fs.map fdStr) (hsz : wr.size < 100000) (hasc : ∀ (j : Nat) b, wr.data.toList[j]? = some b → b.toNat < 128) (hfl : fs.length ≤ 20) (hok : ∀ f ∈ fs, FdOk f) (hro : RowOk rb wb wc ws R fs s0) (hk : OwA y S kv0 ks0) (hkl : ks0.length ≤ 1000) (hsn : ¬ S rb ∧ ¬ S wb ∧ ¬ S 0) :
    Calls Tryd.prog 13 #[.pointer (some ⟨rb, 0, none⟩), .string ⟨kd.toArray⟩, .string wr, kv0] y (RTo rb wb wc ws S (pRow ws R kd fs ks0 s0) y) := by
  have fl2 := pfld2
  have nf0 := nf_0
  have nf1 := nf_1
  have gz := G.alloc y (.cells zBox 27)
  have CW := hide (word_any (h.g gz))
  have hrl := h.b.lt
  have hwl := h.w.lt
  obtain ⟨Rf, hRf⟩ : ∃ Rf, Rf = fdRun ws R fs (([], ks0), s0) := ⟨_, rfl⟩
  obtain ⟨ao, hao⟩ : ∃ ao : Int, ao = ((wdAt ws s0).o : Int) := ⟨_, rfl⟩
  obtain ⟨P, hPr⟩ : ∃ P, P = pRow ws R kd fs ks0 s0 := ⟨_, rfl⟩
  have hP : P = (.mk kd Rf.1.1 ao Rf.1.2, Rf.2) := by rw [hPr, hRf, hao]; rfl
  rw [← hPr]
  obtain ⟨o0, c0, e0⟩ := hk.sl
  have FL : Hid (∀ w, G y w → Calls Tryd.prog 27 #[.string wr] w fun e w' => e = .returned (.slice (some ⟨w.heap.size, 0, none⟩) fs.length fs.length) ∧ w' = w.alloc (.cells (fs.map fun f => Value.string ⟨(fdStr f).toArray⟩).toArray 9)) := hide fun w g => by
    have := fields_any (h.g g).w.sp wr hsz hasc
    rw [hwr, List.length_map, List.map_map] at this
    exact this
  have ST : Hid (∀ w1, G (y.alloc (.cells zBox 27)) w1 → G y (w1.alloc (.cells #[.string ⟨kd.toArray⟩, .string ⟨#[]⟩, .int .i64 ao, kv0] 27)) ∧ HR rb wb wc ws R S y w1.heap.size (w1.heap.size + 1) kd ao fs Rf 0 [] ks0 s0 kv0 ((w1.alloc (.cells #[.string ⟨kd.toArray⟩, .string ⟨#[]⟩, .int .i64 ao, kv0] 27)).alloc (.cells (fs.map fun f => Value.string ⟨(fdStr f).toArray⟩).toArray 9))) := hide fun w1 g => by
    have g1 : G y w1 := gz.trans g
    have g2 := G.alloc w1 (.cells #[.string ⟨kd.toArray⟩, .string ⟨#[]⟩, .int .i64 ao, kv0] 27)
    have g3 := G.alloc (w1.alloc (.cells #[.string ⟨kd.toArray⟩, .string ⟨#[]⟩, .int .i64 ao, kv0] 27)) (.cells (fs.map fun f => Value.string ⟨(fdStr f).toArray⟩).toArray 9)
    have g4 := (g1.trans g2).trans g3
    have z1 := g.size
    rw [World.size_alloc] at z1
    refine ⟨g1.trans g2, ⟨⟨h.g g4, gs_of_g _ g4, (((BoxT.zero y).g g).g g2).g g3, (BoxT.new w1 kd [] ao kv0).g g3, hk.monoG (fun q hq hs => Or.inl ⟨hs, hq⟩) g4, fun i f hf => ?_, hrl, hwl, by omega, by omega, by rw [World.size_alloc, World.size_alloc]; omega, hsn⟩, by rw [List.drop_zero]; exact hro, by rw [List.drop_zero]; exact hRf, by omega⟩⟩
    rw [show w1.heap.size + 1 = (w1.alloc (.cells #[.string ⟨kd.toArray⟩, .string ⟨#[]⟩, .int .i64 ao, kv0] 27)).heap.size by rw [World.size_alloc], World.cell?_alloc_new]
    simp [List.getElem?_map, hf]
  rw [← hao] at CW
  replace hok := hide hok
  have hfl' := hide hfl
  clear hRf hPr h hro hk hwr hsz hasc gz hkl hrl hwl hfl hsn
  subst e0
  generalize (wdAt ws s0).k = wk at *
  generalize (wdAt ws s0).x = wx at *
  clear hao
  go_enter Tryd.func13, Tryd.ntmps13
  go_wp2_with fail
  refine (unhide CW).mono ?_
  rintro e w1 ⟨rfl, g⟩
  obtain ⟨gy, hr0⟩ := unhide ST w1 g
  have CF := hide (unhide FL _ gy)
  replace hr0 := hide hr0
  clear CW FL ST g gy
  go_wp2_with fail
  refine (unhide CF).mono ?_
  rintro e w2 ⟨rfl, rfl⟩
  clear CF
  go_wp2_with fail
  go_loopw [11, 12, 22] (fun _ _ vj wr => ∃ j : Nat, j ≤ fs.length ∧ vj = .int .i64 (j : Int) ∧ ∃ x ks s kv, Hid (HR rb wb wc ws R S y w1.heap.size (w1.heap.size + 1) kd ao fs Rf j x ks s kv wr)) (fun _ _ vj _ => fs.length - (intOf vj).toNat)
  case atStart => exact ⟨0, Nat.zero_le _, rfl, _, _, _, _, hr0⟩
  case round =>
    obtain ⟨j, hj, rfl, x, ks, s, kv, hr⟩ := hrel
    by_cases hlt : j < fs.length
    · have hltz : (j : Int) < (fs.length : Int) := by omega
      obtain ⟨f, hf⟩ := get_some (l := fs) rfl hlt
      have cf := (unhide hr).m.cl j f hf
      have hpre := hide ((unhide hr).pre hf)
      have hfo := hide (unhide hok f (List.mem_of_getElem? hf))
      have hjz : (j : Int) ≤ 1000000 := by have := unhide hfl'; omega
      have hj20 := hide (show j ≤ 20 by have := unhide hfl'; omega)
      cases f with
      | name =>
        have CT : Hid (Calls Tryd.prog 28 #[.pointer (some ⟨rb, 0, none⟩), .int .i64 1] wr (XTo rb wb wc ws (pText ws 1 s) wr)) := hide (text_any (unhide hr).m.st 1 (by decide))
        have NX : Hid (∀ w2, RSt rb wb wc ws (pText ws 1 s).2 w2 → Gt rb wr w2 → (∃ u, w2.cell? ⟨w1.heap.size, 1, none⟩ = some u) ∧ w2.frozen? ⟨w1.heap.size, 1, none⟩ = false ∧ Hid (HR rb wb wc ws R S y w1.heap.size (w1.heap.size + 1) kd ao fs Rf (j + 1) (pText ws 1 s).1 ks (pText ws 1 s).2 kv (w2.setCell ⟨w1.heap.size, 1, none⟩ (.string ⟨(pText ws 1 s).1.toArray⟩)))) := hide fun w2 h2 g2 => (unhide hr).txt hf (r := pText ws 1 s) rfl h2 g2
        clear hr hpre hfo hr0 hok hP hfl'
        generalize pText ws 1 s = tr at *
        simp only [fdStr] at cf
        go_wp2_with fail
        refine (unhide CT).mono ?_
        rintro e w2 hT
        obtain ⟨rfl, h2, g2⟩ := hT
        obtain ⟨⟨u, c1⟩, z1, HN⟩ := unhide NX w2 h2 g2
        clear NX CT h2 g2
        go_wp2_with fail
        go_roundw
        case rel => exact ⟨j + 1, by omega, by first | rfl | go_num, _, _, _, _, HN⟩
        case measure => exact dec_1 hlt
      | number =>
        have CT : Hid (Calls Tryd.prog 28 #[.pointer (some ⟨rb, 0, none⟩), .int .i64 3] wr (XTo rb wb wc ws (pText ws 3 s) wr)) := hide (text_any (unhide hr).m.st 3 (by decide))
        have NX : Hid (∀ w2, RSt rb wb wc ws (pText ws 3 s).2 w2 → Gt rb wr w2 → (∃ u, w2.cell? ⟨w1.heap.size, 1, none⟩ = some u) ∧ w2.frozen? ⟨w1.heap.size, 1, none⟩ = false ∧ Hid (HR rb wb wc ws R S y w1.heap.size (w1.heap.size + 1) kd ao fs Rf (j + 1) (pText ws 3 s).1 ks (pText ws 3 s).2 kv (w2.setCell ⟨w1.heap.size, 1, none⟩ (.string ⟨(pText ws 3 s).1.toArray⟩)))) := hide fun w2 h2 g2 => (unhide hr).txt hf (r := pText ws 3 s) rfl h2 g2
        clear hr hpre hfo hr0 hok hP hfl'
        generalize pText ws 3 s = tr at *
        simp only [fdStr] at cf
        go_wp2_with fail
        refine (unhide CT).mono ?_
        rintro e w2 hT
        obtain ⟨rfl, h2, g2⟩ := hT
        obtain ⟨⟨u, c1⟩, z1, HN⟩ := unhide NX w2 h2 g2
        clear NX CT h2 g2
        go_wp2_with fail
        go_roundw
        case rel => exact ⟨j + 1, by omega, by first | rfl | go_num, _, _, _, _, HN⟩
        case measure => exact dec_1 hlt
      | sign =>
        have CT : Hid (Calls Tryd.prog 29 #[.pointer (some ⟨rb, 0, none⟩)] wr (XTo rb wb wc ws (pSign ws s) wr)) := hide (sign_any (unhide hr).m.st (unhide hpre))
        have NX : Hid (∀ w2, RSt rb wb wc ws (pSign ws s).2 w2 → Gt rb wr w2 → (∃ u, w2.cell? ⟨w1.heap.size, 1, none⟩ = some u) ∧ w2.frozen? ⟨w1.heap.size, 1, none⟩ = false ∧ Hid (HR rb wb wc ws R S y w1.heap.size (w1.heap.size + 1) kd ao fs Rf (j + 1) (pSign ws s).1 ks (pSign ws s).2 kv (w2.setCell ⟨w1.heap.size, 1, none⟩ (.string ⟨(pSign ws s).1.toArray⟩)))) := hide fun w2 h2 g2 => (unhide hr).txt hf (r := pSign ws s) rfl h2 g2
        clear hr hpre hfo hr0 hok hP hfl'
        generalize pSign ws s = tr at *
        simp only [fdStr] at cf
        go_wp2_with fail
        refine (unhide CT).mono ?_
        rintro e w2 hT
        obtain ⟨rfl, h2, g2⟩ := hT
        obtain ⟨⟨u, c1⟩, z1, HN⟩ := unhide NX w2 h2 g2
        clear NX CT h2 g2
        go_wp2_with fail
        go_roundw
        case rel => exact ⟨j + 1, by omega, by first | rfl | go_num, _, _, _, _, HN⟩
        case measure => exact dec_1 hlt
      | args =>
        have hF : Ent 31 := ntF_ent .inside
        obtain ⟨pr1, pr2⟩ := (unhide hpre : FdPre rb wb wc ws R .args s)
        have CC : Hid (Calls Tryd.prog 30 #[.pointer (some ⟨rb, 0, none⟩), .func (.func 31) #[.pointer (some ⟨rb, 0, none⟩)] #[]] wr.drew (LTo rb wb wc ws (pList ws (R .inside) s) wr.drew)) := hide (list_any ((unhide hr).m.st.g (G.refl _).drew) _ _ hF pr1 pr2)
        have NX : Hid (∀ w2 lo ln lc, OwK w2 wr.drew.heap.size (.slice lo ln lc) (pList ws (R .inside) s).1 → RSt rb wb wc ws (pList ws (R .inside) s).2 w2 → Gt rb wr.drew w2 → _) := hide fun w2 lo ln lc ho h2 g2 => (unhide hr).nods (unhide hj20) hf (r := pList ws (R .inside) s) rfl (by have := pList_len (ws := ws) (P := R .inside) s; have := (unhide hr).m.st.w.len; omega) (G.refl wr).drew ho h2 g2
        have e3 := (unhide hr).m.box.c.2.2.2
        clear hr hpre hfo hr0 hok hP hfl' pr1 pr2 hF
        generalize pList ws (R .inside) s = tr at *
        simp only [fdStr] at cf
        go_wp2_with fail
        go_region_law ((first
          | (go_simp; go_at_call 30; refine (unhide CC).mono ?_; rintro e w2 hl; obtain ⟨kk, rfl, ho, hs, hg⟩ := hl; obtain ⟨lo, lc, rfl⟩ := ho.sl; obtain ⟨e4, vo, vn, vc, w', hrun, e5, e6, HZ⟩ := unhide NX w2 lo _ lc ho hs hg; clear NX CC ho hs hg; try go_simp)
          | (refine step_apN rfl (.tmp 60) (.tmp 64) 25 rfl _ _ rfl rfl _ _ hrun ?_)))
        all_goals
          clear hrun
          go_wp2_with fail
          go_roundw
          case rel => exact ⟨j + 1, by omega, by first | rfl | go_num, _, _, _, _, HZ⟩
          case measure => exact dec_1 hlt
      | part n =>
        have hpt : isPart n = true := unhide hfo
        have hF := ntF_ent n
        obtain ⟨n1, n2, n3, n4⟩ := ntStr_ne n hpt
        have CP := hide (part_yes n hpt (.pointer (some ⟨rb, 0, none⟩)) wr)
        have hpo : Ok rb wb wc ws (ntF n) (R n) s := unhide hpre
        have CC : Hid (Calls Tryd.prog (ntF n) #[.pointer (some ⟨rb, 0, none⟩)] wr.drew (NTo rb wb wc ws (R n s) wr.drew)) := hide (hpo _ ((unhide hr).m.st.g (G.refl _).drew))
        have NX : Hid (∀ w2 lo ln lc, OwK w2 wr.drew.heap.size (.slice lo ln lc) (R n s).1.ks → RSt rb wb wc ws (R n s).2 w2 → Gt rb wr.drew w2 → _) := hide fun w2 lo ln lc ho h2 g2 => (unhide hr).nod (unhide hj20) hf (r := R n s) rfl (G.refl wr).drew ho h2 g2
        have e3 := (unhide hr).m.box.c.2.2.2
        clear hr hpre hfo hr0 hok hP hfl' hpo hpt
        generalize R n s = tr at *
        simp only [fdStr] at cf
        generalize ntStr n = nt at *
        generalize ntF n = F at *
        go_wp2_with fail
        refine (unhide CP).mono ?_
        rintro e w2 ⟨rfl, rfl⟩
        clear CP
        go_wp2_with fail
        go_region_law ((first
          | (go_simp; go_at_fn F; refine (unhide CC).mono ?_; rintro e w2 hl; obtain ⟨lo, ln, lc, rfl, ho, hs, hg⟩ := hl.open; obtain ⟨e4, e4k, vo, vn, vc, w', hrun, e5, e6, HZ⟩ := unhide NX w2 lo ln lc ho hs hg; clear NX CC ho hs hg; try go_simp)
          | (refine step_apN rfl (.tmp 33) (.tmp 36) 25 rfl _ _ rfl rfl _ _ hrun ?_)))
        all_goals
          clear hrun
          go_wp2_with fail
          go_roundw
          case rel => exact ⟨j + 1, by omega, by first | rfl | go_num, _, _, _, _, HZ⟩
          case measure => exact dec_1 hlt
      | word t =>
        obtain ⟨t0, tp, n1, n2, n3, n4⟩ := (unhide hfo : FdOk (.word t))
        have CP := hide (part_no t tp (.pointer (some ⟨rb, 0, none⟩)) wr)
        have CC := hide (need_any (unhide hr).m.st t t0)
        have NX : Hid (∀ w2, RSt rb wb wc ws (pNeed ws t s) w2 → Gt rb wr w2 → HR rb wb wc ws R S y w1.heap.size (w1.heap.size + 1) kd ao fs Rf (j + 1) x ks (pNeed ws t s) kv w2) := hide fun w2 h2 g2 => (unhide hr).next hf rfl ((unhide hr).m.to h2 g2) (by omega)
        clear hr hpre hfo hr0 hok hP hfl' tp t0
        generalize pNeed ws t s = tr at *
        simp only [fdStr] at cf
        go_wp2_with fail
        refine (unhide CP).mono ?_
        rintro e w2 ⟨rfl, rfl⟩
        clear CP
        go_wp2_with fail
        refine (unhide CC).mono ?_
        rintro e w3 hT
        obtain ⟨rfl, h2, g2⟩ := hT
        have HZ := hide (unhide NX w3 h2 g2)
        clear NX CC h2 g2
        go_wp2_with fail
        go_roundw
        case rel => exact ⟨j + 1, by omega, by first | rfl | go_num, _, _, _, _, HZ⟩
        case measure => exact dec_1 hlt
    · obtain rfl : j = fs.length := by omega
      obtain ⟨⟨q0, q1, q2, q3⟩, ⟨vo, vn, vc, rfl⟩, ⟨u0, u1, u2, u3, z0, z1, z2, z3⟩, ⟨f0, f1, f2, f3⟩, K⟩ := (unhide hr).fin hP
      have hltz : ¬ (fs.length : Int) < (fs.length : Int) := by omega
      clear hr hr0 hok hP hfl' hlt
      go_wp2_with fail
      obtain ⟨K1, d0, d1, d2, d3⟩ := unhide K
      refine bodyPost_ret (by simp [results, Tryd.results13, go_sem, d0, d1, d2, d3]; try rfl) rfl ?_
      exact K1
end Go.Proofs.YtablincnlfbjnabDoor
