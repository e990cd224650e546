/- The contract of mark's object, field. -/
import Derived.Test.YtinehimleldkdaaGreatDoorMgM
import Derived.Deep.DeepCutAuto
namespace Go.Proofs.YtinehimleldkdaaGreatDoor
set_option maxRecDepth 100000
open Go.ChangeShapes Go.WideShapes Go.ChangeAt Go.RowKit Go.Maps

section
variable {W w w' : World} {L : Lc} {e : Lx} {M M1 M2 : Ms} {N N' B : Nat} {E E' F : List Nat}
set_option maxHeartbeats 16000000 in
theorem m_object_core (x v e1 a b c e2 i v3 e3 k f : Int) (m : Nat) (e4 n : Int) (h : Hid (MSx W w L e M1 M2 N E))
    (r1 : Hid (M1.al.a.readV x 0 = v ∧ M1.al.a.readE x 0 = e1)) (r2 : Hid (Hd.ukV v (Hd.up0 v) = a ∧ Hd.ukV v (Hd.up1 v) = b ∧ Hd.ukV v (Hd.up2 v) = c ∧ Hd.ukE v = e2))
    (hi : IntKind.i64.wrap (a - 1) = i) (r3 : Hid (M1.al.a.readV x i = v3 ∧ M1.al.a.readE x i = e3))
    (r4 : Hid ((e1 != 0) = false → (e2 != 0) = false → (e3 != 0) = false → ∀ w1, G w w1 → Calls Tryz.prog 76 #[.pointer (some ⟨L.tb, 0, none⟩), .int .i64 c] w1 fun r w' => r = .returned (.tuple #[.agg #[.int .i64 k, .int .i64 f, .int .u64 (m : Int)], .int .i64 e4]) ∧ G w1 w'))
    (hs : Hid ((e1 != 0) = true ∧ k = 0 ∧ f = 0 ∧ m = 0 ∧ n = 0 ∨ (e1 != 0) = false ∧ ((e2 != 0) = true ∧ k = 0 ∧ f = 0 ∧ m = 0 ∧ n = 0 ∨ (e2 != 0) = false ∧ ((e3 != 0) = true ∧ k = 0 ∧ f = 0 ∧ m = 0 ∧ n = 0 ∨ (e3 != 0) = false ∧ ((e4 != 0) = true ∧ k = 0 ∧ f = 0 ∧ m = 0 ∧ n = 0 ∨ (e4 != 0) = false ∧ a = n))))) :
    Calls Tryz.prog 41 #[.pointer (some ⟨L.kb, 0, none⟩), .int .i64 x] w fun r w' => r = .returned (.tuple #[.agg #[.int .i64 k, .int .i64 f, .int .u64 (m : Int)], .int .i64 n]) ∧ G w w' := by
  have C1 : Hid (∀ w1, G w w1 → Calls Tryz.prog 74 #[.pointer (some ⟨L.xl.d.ab, 0, none⟩), .int .i64 x, .int .i64 0] w1 fun r w' => r = .returned (.tuple #[.int .i64 v, .int .i64 e1]) ∧ G w1 w') := hide fun w1 g1 => by
    have := ls_read (hide ((unhide h).gr g1).bo.st) x 0
    rw [(unhide r1).1, (unhide r1).2] at this
    exact this.mono fun _ _ hh => ⟨hh.1, hh.2.2⟩
  have C3 : Hid (∀ w1, G w w1 → Calls Tryz.prog 74 #[.pointer (some ⟨L.xl.d.ab, 0, none⟩), .int .i64 x, .int .i64 i] w1 fun r w' => r = .returned (.tuple #[.int .i64 v3, .int .i64 e3]) ∧ G w1 w') := hide fun w1 g1 => by
    have := ls_read (hide ((unhide h).gr g1).bo.st) x i
    rw [(unhide r3).1, (unhide r3).2] at this
    exact this.mono fun _ _ hh => ⟨hh.1, hh.2.2⟩
  have C2 : Hid (∀ w1, Calls Tryz.prog 75 #[.int .i64 v] w1 fun r w' => r = .returned (.tuple #[.agg #[.int .i64 a, .int .i64 b, .int .i64 c], .int .i64 e2]) ∧ G w1 w') := hide fun w1 => by
    have := Hd.unpack_any v w1
    rw [(unhide r2).1, (unhide r2).2.1, (unhide r2).2.2.1, (unhide r2).2.2.2] at this
    exact this
  have c0 := (unhide h).pm.c0
  have hmk : L.kb < w.heap.size := World.block_lt_of_cell? w _ c0
  have R := hide (Rv.new w (.int .i64 0) (.int .i64 0) (.int .u64 0) 73)
  go_enter Tryz.func41, Tryz.ntmps41
  go_wp2_with fail
  refine (unhide C1 _ (G.alloc w _)).mono ?_
  rintro r w1 ⟨rfl, g1⟩
  have g := hide ((G.alloc w _).trans g1)
  replace R := hide ((unhide R).gr g1)
  obtain ⟨b0, b1, b2, bf⟩ := unhide R
  have f0 := bf 0
  have f1 := bf 1
  have f2 := bf 2
  have c0 := ((unhide h).gr (unhide g)).pm.c0
  clear g1 bf
  rcases unhide hs with ⟨t1, rfl, rfl, rfl, rfl⟩ | ⟨t1, hs2⟩
  · have k0 := set0 (x := .int .i64 0) b0
    have k1 := set1 (x := .int .i64 0) (y := .int .i64 0) b1
    have k2 := set2 (x := .int .i64 0) (y := .int .i64 0) (z := .int .u64 0) b2
    go_wp2_with fail
    try simp only [Exit.inBlock, Exit.then]
    refine bodyPost_ret (by simp [results, Tryz.results41, go_sem, k0, k1, k2]; try rfl) rfl ?_
    exact ⟨rfl, G3 (unhide g) (Nat.le_refl _) _ _ _⟩
  · clear hs
    have hs := hide hs2
    clear hs2
    go_wp2_with fail
    refine (unhide C2 _).mono ?_
    rintro r w2 ⟨rfl, g2⟩
    clear b0 b1 b2 f0 f1 f2 c0
    replace g := hide ((unhide g).trans g2)
    replace R := hide ((unhide R).gr g2)
    obtain ⟨b0, b1, b2, bf⟩ := unhide R
    have f0 := bf 0
    have f1 := bf 1
    have f2 := bf 2
    have c0 := ((unhide h).gr (unhide g)).pm.c0
    clear g2 bf
    have hlt : w.heap.size < w2.heap.size := (unhide R).lt
    rcases unhide hs with ⟨t2, rfl, rfl, rfl, rfl⟩ | ⟨t2, hs2⟩
    · obtain ⟨k0, k1, k2, _⟩ := ((unhide R).three (.int .i64 0) (.int .i64 0) (.int .u64 0)).gr (G.alloc _ (.cells #[.int .i64 a, .int .i64 b, .int .i64 c] 56))
      go_wp2_with fail
      try simp only [Exit.inBlock, Exit.then]
      refine bodyPost_ret (by simp [results, Tryz.results41, go_sem, k0, k1, k2]; try rfl) rfl ?_
      exact ⟨rfl, (G3 (unhide g) (Nat.le_refl _) _ _ _).more _⟩
    · clear hs
      have hs := hide hs2
      clear hs2
      have hk2 : L.kb < w2.heap.size := World.block_lt_of_cell? _ _ c0
      have Hb := hide (Rv.new w2 (.int .i64 a) (.int .i64 b) (.int .i64 c) 56)
      go_upto_region 7 with fail
      go_cut [9, 10] (fun v9 v10 wx => v9 = .int .i64 v3 ∧ v10 = .int .i64 e3 ∧ Hid (Rv wx w.heap.size (.int .i64 0) (.int .i64 0) (.int .u64 0) ∧ Rv wx w2.heap.size (.int .i64 a) (.int .i64 b) (.int .i64 c) ∧ G w wx))
      case first =>
        go_region_with (go_at_call 74; refine (unhide C3 _ (by first | exact ((unhide g).more _).drew | exact (unhide g).more _ | exact below_drewN ((unhide g).more _) _)).mono ?_; rintro r w3 ⟨rfl, g3⟩; have g3' : G (w2.alloc (.cells #[.int .i64 a, .int .i64 b, .int .i64 c] 56)) w3 := by (first | exact G.trans (G.drew (G.refl _)) g3 | exact g3))
        all_goals
          go_wp2_with fail
          go_meet
          case rel => exact ⟨rfl, rfl, hide ⟨((unhide R).gr (G.alloc _ _)).gr g3', (unhide Hb).gr g3', ((unhide g).more _).trans g3'⟩⟩
      case rest =>
        obtain ⟨rfl, rfl, F3⟩ := hcut
        clear b0 b1 b2 f0 f1 f2 c0 Hb R g hk2 C1 C2 C3
        obtain ⟨b0, b1, b2, bf⟩ := (unhide F3).1
        obtain ⟨q0, q1, q2, _⟩ := (unhide F3).2.1
        have f0 := bf 0
        have f1 := bf 1
        have f2 := bf 2
        have c1 := ((unhide h).gr (unhide F3).2.2).pm.c1
        clear bf
        generalize w2.heap.size = hb at *
        rcases unhide hs with ⟨t3, rfl, rfl, rfl, rfl⟩ | ⟨t3, hs2⟩
        · have k0 := set0 (x := .int .i64 0) b0
          have k1 := set1 (x := .int .i64 0) (y := .int .i64 0) b1
          have k2 := set2 (x := .int .i64 0) (y := .int .i64 0) (z := .int .u64 0) b2
          clear hs
          go_wp2_with fail
          try simp only [Exit.inBlock, Exit.then]
          refine bodyPost_ret (by simp [results, Tryz.results41, go_sem, k0, k1, k2]; try rfl) rfl ?_
          exact ⟨rfl, G3 (unhide F3).2.2 (Nat.le_refl _) _ _ _⟩
        · clear hs
          have hs := hide hs2
          clear hs2
          have hlt3 : w.heap.size < wc.heap.size := (unhide F3).1.lt
          have hlh3 : hb < wc.heap.size := (unhide F3).2.1.lt
          have hk3 : L.kb < wc.heap.size := World.block_lt_of_cell? _ _ c1
          go_upto_region 10 with fail
          go_cut [7, 11] (fun v7 v11 wx => ∃ sb, v7 = .int .i64 e4 ∧ v11 = .pointer (some ⟨sb, 0, none⟩) ∧ Hid (Rv wx w.heap.size (.int .i64 0) (.int .i64 0) (.int .u64 0) ∧ Rv wx hb (.int .i64 a) (.int .i64 b) (.int .i64 c) ∧ Rv wx sb (.int .i64 k) (.int .i64 f) (.int .u64 (m : Int)) ∧ G w wx))
          case first =>
            go_region_with (first
              | (go_at_call 76; refine (unhide r4 t1 t2 t3 _ (((unhide F3).2.2.more _).drew)).mono ?_; rintro r w4 ⟨rfl, g4⟩; have g4' : G (wc.alloc (.cells #[.int .i64 0, .int .i64 0, .int .u64 0] 73)) w4 := G.trans (G.drew (G.refl _)) g4; have V4 := (Rv.new wc (.int .i64 0) (.int .i64 0) (.int .u64 0) 73).gr g4'; have d0 := V4.c0; have d1 := V4.c1; have d2 := V4.c2; have df0 := V4.f 0; have df1 := V4.f 1; have df2 := V4.f 2; have F5 := hide (⟨(((unhide F3).1.gr (G.alloc _ _)).gr g4').other (b' := wc.heap.size) (by omega) (.int .i64 k) (.int .i64 f) (.int .u64 (m : Int)), (((unhide F3).2.1.gr (G.alloc _ _)).gr g4').other (b' := wc.heap.size) (by omega) (.int .i64 k) (.int .i64 f) (.int .u64 (m : Int)), V4.three (.int .i64 k) (.int .i64 f) (.int .u64 (m : Int)), G3 (((unhide F3).2.2.more _).trans g4') (b := wc.heap.size) (unhide F3).2.2.size (.int .i64 k) (.int .i64 f) (.int .u64 (m : Int))⟩ : _ ∧ _ ∧ _ ∧ _); clear g4 g4' V4)
              | (go_at_call 76; refine (unhide r4 t1 t2 t3 _ ((unhide F3).2.2.drew)).mono ?_; rintro r w4 ⟨rfl, g4⟩; have g4' : G wc w4 := G.trans (G.drew (G.refl _)) g4; have F5 := hide (⟨((unhide F3).1.gr g4').gr (G.alloc _ (.cells #[.int .i64 k, .int .i64 f, .int .u64 (m : Int)] 73)), ((unhide F3).2.1.gr g4').gr (G.alloc _ (.cells #[.int .i64 k, .int .i64 f, .int .u64 (m : Int)] 73)), Rv.new w4 (.int .i64 k) (.int .i64 f) (.int .u64 (m : Int)) 73, ((unhide F3).2.2.trans g4').more (.cells #[.int .i64 k, .int .i64 f, .int .u64 (m : Int)] 73)⟩ : _ ∧ _ ∧ _ ∧ _); clear g4 g4'))
            all_goals
              go_wp2_with fail
              go_meet
              case rel => exact ⟨_, rfl, rfl, F5⟩
          case rest =>
            obtain ⟨sb, rfl, rfl, F5⟩ := hcut
            clear b0 b1 b2 f0 f1 f2 c1 q0 q1 q2 F3 hlt3 hlh3 hk3
            obtain ⟨b0, b1, b2, bf⟩ := (unhide F5).1
            obtain ⟨q0, q1, q2, _⟩ := (unhide F5).2.1
            obtain ⟨d0, d1, d2, _⟩ := (unhide F5).2.2.1
            have f0 := bf 0
            have f1 := bf 1
            have f2 := bf 2
            clear bf
            rcases unhide hs with ⟨t4, rfl, rfl, rfl, rfl⟩ | ⟨t4, rfl⟩
            · have k0 := set0 (x := .int .i64 0) b0
              have k1 := set1 (x := .int .i64 0) (y := .int .i64 0) b1
              have k2 := set2 (x := .int .i64 0) (y := .int .i64 0) (z := .int .u64 0) b2
              clear hs
              go_wp2_with fail
              try simp only [Exit.inBlock, Exit.then]
              refine bodyPost_ret (by simp [results, Tryz.results41, go_sem, k0, k1, k2]; try rfl) rfl ?_
              exact ⟨rfl, G3 (unhide F5).2.2.2 (Nat.le_refl _) _ _ _⟩
            · obtain ⟨K0, K1, K2, _⟩ := (((unhide F5).1.three (.int .i64 k) (.int .i64 f) (.int .u64 (m : Int))).gr (G.drew (G.refl _)))
              obtain ⟨Q0, Q1, Q2, _⟩ := (((unhide F5).2.1.other (b' := w.heap.size) (by omega) (.int .i64 k) (.int .i64 f) (.int .u64 (m : Int))).gr (G.drew (G.refl _)))
              have hne5 : ¬ hb = w.heap.size := by omega
              have KG := hide (G.drew (G3 (unhide F5).2.2.2 (Nat.le_refl _) (.int .i64 k) (.int .i64 f) (.int .u64 (m : Int))))
              clear hs
              go_wp2_with fail
              go_region
              all_goals
                go_wp2_with fail
                try simp only [Exit.inBlock, Exit.then]
                refine bodyPost_ret (by simp [results, Tryz.results41, go_sem, K0, K1, K2]; try rfl) rfl ?_
                exact ⟨rfl, unhide KG⟩
end
end Go.Proofs.YtinehimleldkdaaGreatDoor
