/- The contract of world: both allocators take the things, both have them written. -/
import Derived.Test.YtinehimleldkdaaGreatDoorMgT
import Derived.Deep.RegionHeld3
namespace Go.Proofs.YtinehimleldkdaaGreatDoor
set_option maxRecDepth 100000
open Go.ChangeShapes Go.WideShapes Go.ChangeAt Go.RowKit Go.Maps Go.Deep

set_option maxHeartbeats 16000000 in
theorem world_any (w : World) (ht : Hid (Tab w)) (n : Nat) (h8 : 8 ≤ n) (hn5 : n ≤ 512) (ao : Option Addr) (cap k : Nat) (l : List Th) (hl : Hid (l.length = k)) (hk : k ≤ 100) (HT : Hid (ThsAt w ao l)) :
    Calls Tryz.prog 9 #[.int .i64 (n : Int), .slice ao k cap] w fun r w' => ∃ L bo cb, r = .returned (.tuple #[.pointer (some ⟨L.kb, 0, none⟩), .pointer (some ⟨L.rk, 0, none⟩), .pointer (some ⟨L.xl.d.ab, 0, none⟩), .slice bo k cb]) ∧ MS w w' L ⟨(wld n l).1, kinds, []⟩ ⟨(wld n l).1, kinds, []⟩ k (Gy.blk bo) ∧ Gy.RowW w' w.heap.size bo cb (wld n l).2 := by
  have hb : Hid (Below w.heap.size w w) := G.refl w
  go_enter Tryz.func9, Tryz.ntmps9
  go_wp2_with fail
  refine (st_make n h8 hn5 hb ht).mono ?_
  rintro r w1 ⟨d, rfl, S1, g1, q1, q2, q3⟩
  replace S1 := hide S1
  replace g1 := hide g1
  go_wp2_with fail
  refine (Hd.new_any _).mono ?_
  rintro r w2 ⟨rfl, hw2⟩
  have T2 := hide (Hd.tab_new w1 w.heap.size (unhide g1).size)
  have g2 : Hid (G w1 w2) := hide (by rw [hw2]; exact (G.alloc _ _).more _)
  have z2 : w2.heap.size = w1.heap.size + 2 := by rw [hw2]; simp
  rw [← hw2] at T2
  clear hw2
  go_wp2_with fail
  refine (marknew_raw _ _ _).mono ?_
  rintro r w3 ⟨rfl, hw3⟩
  have Q3 : Hid (Gy.QL w3 w2.heap.size [] []) := hide (by rw [hw3]; exact (Gy.queue_new w2).grown (G.alloc _ _))
  have V3 : Hid (Rv w3 (w2.heap.size + 1) (.pointer (some ⟨d.ab, 0, none⟩)) (.pointer (some ⟨w1.heap.size + 1, 0, none⟩)) (.pointer (some ⟨w2.heap.size, 0, none⟩))) := hide (by
    have := Rv.new (w2.alloc (.cells #[.pointer none, .pointer none, .int .i64 0, .int .i64 0] 136)) (.pointer (some ⟨d.ab, 0, none⟩)) (.pointer (some ⟨w1.heap.size + 1, 0, none⟩)) (.pointer (some ⟨w2.heap.size, 0, none⟩)) 82
    rw [World.size_alloc] at this
    rw [hw3]
    exact this)
  have g3 : Hid (G w2 w3) := hide (by rw [hw3]; exact (G.alloc _ _).more _)
  have z3 : w3.heap.size = w2.heap.size + 2 := by rw [hw3]; simp
  clear hw3
  go_wp2_with fail
  refine (rnew_at _ n (by omega) hn5).mono ?_
  rintro r w4 ⟨rd, rfl, RA, g4, hlo⟩
  replace RA := hide RA
  replace g4 := hide g4
  have R5 := hide (Rv.new w4 (.pointer (some ⟨rd.rb, 0, none⟩)) (.slice none 0 0) (.slice none 0 0) 39)
  have S5 := hide ((unhide S1).G ((((unhide g2).trans (unhide g3)).trans (unhide g4)).more (.cells #[.pointer (some ⟨rd.rb, 0, none⟩), .slice none 0 0, .slice none 0 0] 39)))
  have CA := hide (l_new2 n hn5 S5)
  go_wp2_with fail
  refine (unhide CA).mono ?_
  rintro r w6 ⟨xl, rfl, hxd, S6, g6, y1, y2⟩
  subst hxd
  have R6 := hide ((unhide R5).gr g6)
  have c60 := (unhide R6).c0
  have g16 : Hid (G w1 w6) := hide (((((unhide g2).trans (unhide g3)).trans (unhide g4)).more _).trans g6)
  have g46 : Hid (G w4 w6) := hide ((G.alloc w4 _).trans g6)
  have z5 : w4.heap.size + 1 ≤ w6.heap.size := by have := g6.size; rw [World.size_alloc] at this; exact this
  rw [World.size_alloc] at y1 y2
  have hlt5 : w4.heap.size < w6.heap.size := by omega
  clear CA g6 R5 S5
  have l0 := (unhide S1).at_.lt0
  have l1 := (unhide S1).at_.lt1 (unhide S1).n8
  have l2 := (unhide S1).at_.lt2 (unhide S1).n8
  have zw := (unhide g1).size
  have z4 := (unhide g4).size
  have r0 := (unhide RA).h0
  have r1 := (unhide RA).h1
  have r2 := (unhide RA).b0
  have r3 := (unhide RA).b1
  have D5 : Ds [w2.heap.size + 1, w1.heap.size + 1, w1.heap.size, w2.heap.size, w4.heap.size] (five xl) := fun b hb1 hb2 => by
    simp [five] at hb1 hb2
    omega
  have CN := hide (ra_new (W := w) (w := w6) (D := five xl ++ [w2.heap.size + 1, w1.heap.size + 1, w1.heap.size, w2.heap.size, w4.heap.size]) n h8 hn5 (((unhide RA).grown (unhide g46)).lower (by omega)) S6.below (fun b hb1 => by
    have hx1 : xl.lb < w6.heap.size := S6.lt0
    have hx2 : xl.ub < w6.heap.size := S6.lt1
    simp [five] at hb1
    refine ⟨by omega, by omega, by omega, (fun a ha => by rw [hlo] at ha; cases ha), (fun m hm => by cases hm)⟩))
  replace S6 := hide S6
  go_wp2_with fail
  refine (unhide CN).mono ?_
  rintro r w7 ⟨x, rfl, hxr, DA7, g7⟩
  have g17 := (unhide g16).trans g7
  have V7 := ((unhide V3).gr (unhide g4)).gr ((unhide g46).trans g7)
  have X7 := ms_start ((unhide S6).G g7) DA7 ((unhide T2).grown (((unhide g3).trans (unhide g4)).trans ((unhide g46).trans g7))) ((unhide Q3).grown ((unhide g4).trans ((unhide g46).trans g7))) V7.c0 V7.c1 V7.c2 (by rw [hxr]; exact (unhide R6).gr g7) D5 (by omega) (fun b hb1 => by simp at hb1; omega)
  obtain ⟨L, hL⟩ : ∃ L : Lc, L = ⟨xl, x, w2.heap.size + 1, w1.heap.size + 1, w1.heap.size, w2.heap.size, w4.heap.size⟩ := ⟨_, rfl⟩
  have e1 : xl = L.xl := by rw [hL]
  have e2 : x = L.x := by rw [hL]
  have e3 : w2.heap.size + 1 = L.kb := by rw [hL]
  have e4 : w1.heap.size + 1 = L.tb := by rw [hL]
  have e5 : w4.heap.size = L.rk := by rw [hL]
  rw [← hL] at X7
  have hrb : rd.rb = L.x.rb := by rw [← e2, hxr]
  have hkb : Hid (w1.heap.size + 2 + 1 = L.kb) := hide (by rw [← e3]; omega)
  have X8 : Hid (MS w (w7.alloc shpObj) L ⟨al0 n, kinds.take 0, []⟩ ⟨al0 n, kinds.take 0, []⟩ 0 [w7.heap.size]) := hide (X7.grE (G.alloc _ _) fun b hb1 => by
    simp at hb1
    subst hb1
    exact Or.inr ⟨Nat.le_refl _, by rw [World.size_alloc]; omega⟩)
  have A8 := hide (sat_new w7)
  rw [e1] at *
  rw [e2] at *
  simp only [e3, e4, e5] at *
  clear V7 X7 DA7 g7 g17 CN D5 RA g1 g2 g3 g4 g16 g46 T2 Q3 V3 R6 S6 S1 hL e1 e2 e3 e4 e5 hxr hlo l0 l1 l2 zw z4 r0 r1 r2 r3 z2 z3 z5 hlt5 y1 y2 q1 q2 q3 c60
  go_wp2_with fail
  refine (shapes_any _).mono ?_
  rintro r w8 ⟨rfl, hw8⟩
  rw [← hw8] at X8 A8
  clear hw8
  generalize w7.heap.size = sb at *
  go_wp2_with fail
  go_loopw [16] (fun i wr => ∃ j : Nat, i = .int .i64 (j : Int) ∧ j ≤ 6 ∧ Hid (MS w wr L ⟨al0 n, kinds.take j, []⟩ ⟨al0 n, kinds.take j, []⟩ 0 [sb]) ∧ Hid (SAt wr sb))
    (fun i _ => 6 - (intOf i).toNat)
  case atStart => exact ⟨0, rfl, Nat.zero_le _, X8, A8⟩
  case round =>
    obtain ⟨j, rfl, hj, X, A⟩ := hrel
    clear X8 A8
    by_cases hlt : j < 6
    · --<A
      obtain ⟨ks, kr⟩ := kinds_at ⟨j, hlt⟩
      obtain ⟨s, hs⟩ := Option.isSome_iff_exists.1 ks
      obtain ⟨p1, p2, p3, p4, p5, p6, p7, p8⟩ := kr s hs
      simp only at hs p2 p8
      have fit := kind_fit p3 p4 p5 p6 p7
      obtain ⟨a0, a1, a2⟩ := unhide A j s hs
      have CP := hide (p_number X s fit (by simp; omega))
      have eT : Hid (Hd.addS (kinds.take j) s = kinds.take (j + 1)) := hide (by unfold Hd.addS; rw [if_pos ⟨p1, p2⟩, p8])
      have p2' := hide p2
      have p8' := hide p8
      clear kr ks p1 p2 p3 p4 p5 p6 p7 p8 hs fit
      go_wp2_with fail
      refine (unhide CP).mono ?_
      rintro r w9 ⟨v, c, rfl, X9, K9⟩
      have X9 := hide X9
      have A9 := hide ((unhide A).kept (K9 sb (by simp)))
      have ks := K9 sb (by simp)
      have b0 := (World.cell?_of_block (a := ⟨sb, j * 3, none⟩) ks).trans a0
      have b1 := (World.cell?_of_block (a := ⟨sb, j * 3 + 1, none⟩) ks).trans a1
      have b2 := (World.cell?_of_block (a := ⟨sb, j * 3 + 2, none⟩) ks).trans a2
      clear K9 ks a0 a1 a2 CP X A
      go_wp2_with fail
      go_region_with (go_at_call 35; refine (d_number (hide (by first | exact (unhide X9).gr (G.drew (G.refl _)) | exact unhide X9)) s (unhide p2') (by simp; omega)).mono ?_; rintro r w10 ⟨v2, rfl, X10, K10⟩; have X10 := hide X10; have A10 := hide ((unhide A9).kept (K10 sb (by simp))))
      all_goals
        rw [unhide eT, ← unhide p8'] at X10
        clear X9 A9 b0 b1 b2 K10
        go_wp2_with fail
        go_roundw
        case rel => exact ⟨j + 1, by go_num, by omega, X10, A10⟩
        case measure => simp [intOf]; omega
      --A>
    · obtain rfl : j = 6 := by omega
      go_wp2_with fail
      rw [show ((6 : Nat) : Int) = 6 from rfl]
      have X0 : Hid (MS w wr L ⟨(tkJ (al0 n) l 0).1, kinds, []⟩ ⟨(tkJ (al0 n) l 0).1, kinds, []⟩ 0 (Gy.blk none ++ [sb])) := X
      have I0 := hide (tk_start h8 hn5 l)
      clear X
      go_loopw [17, 18] (fun v i wr => ∃ (j : Nat) (bo : Option Addr) (cb : Nat), v = .slice bo j cb ∧ i = .int .i64 (j : Int) ∧ j ≤ k ∧ Hid (MS w wr L ⟨(tkJ (al0 n) l j).1, kinds, []⟩ ⟨(tkJ (al0 n) l j).1, kinds, []⟩ j (Gy.blk bo ++ [sb])) ∧ Hid (SAt wr sb) ∧ Hid (TkI l j (tkJ (al0 n) l j)) ∧ Hid (Gy.RowW wr w.heap.size bo cb (tkJ (al0 n) l j).2) ∧ Hid (Ds (Gy.blk bo) [sb]))
        (fun _ i _ => k - (intOf i).toNat)
      case atStart => exact ⟨0, none, 0, rfl, rfl, Nat.zero_le _, X0, A, I0, hide (Gy.RowW.nil _ _), hide fun _ hd => by cases hd⟩
      case round =>
        obtain ⟨j, bo, cb, rfl, rfl, hj, X, A, I, R, D⟩ := hrel
        clear X0 I0
        by_cases hlt : j < k
        · --<B
          obtain ⟨t, ht⟩ : ∃ t, l[j]? = some t := ⟨_, List.getElem?_eq_getElem (by have := unhide hl; omega)⟩
          rcases unhide HT with h0 | ⟨b, off, rfl, hc⟩
          · rw [h0] at ht; simp at ht
          · obtain ⟨c0, c1, ro, tc, c2, _⟩ := hc j t ht
            have bw := (unhide X).below
            have hbw := World.block_lt_of_cell? w _ c0
            have CC := hide (And.intro c0 (And.intro c1 c2))
            have k0 := (bw.cell (p := ⟨b, off + j * 3, none⟩) hbw).trans c0
            have k1 := (bw.cell (p := ⟨b, off + j * 3 + 1, none⟩) hbw).trans c1
            have k2 := (bw.cell (p := ⟨b, off + j * 3 + 2, none⟩) hbw).trans c2
            obtain ⟨s1, s2⟩ := szI_r t.sh t.wd
            obtain ⟨m, hm⟩ : ∃ m, szI t.sh t.wd = m := ⟨_, rfl⟩
            have hm' := hide (show t.sz = m from hm)
            have hgc := (gc_fit (n := m) (by omega) (by omega)).1
            have CS := hide (fun w1 sv => size_any t.sh t.wd sv w1)
            rw [hm] at CS s1 s2
            have I' := hide ((unhide I).step ht)
            have eT := hide (tkJ_succ (al := al0 n) ht)
            rw [unhide hm'] at eT
            obtain ⟨al, hal⟩ : ∃ al, (tkJ (al0 n) l j).1 = al := ⟨_, rfl⟩
            rw [hal] at X eT
            obtain ⟨v, hv⟩ : ∃ v, (al.take m).2.1 = v := ⟨_, rfl⟩
            obtain ⟨er, her⟩ : ∃ er, (al.take m).2.2 = er := ⟨_, rfl⟩
            have hvv : (v != v) = false := by simp
            replace hv := hide hv
            replace her := hide her
            have hlen : Hid ((tkJ (al0 n) l j).2.length = j) := hide (unhide I).len
            clear bw c0 c1 c2 hc ht hm hal I
            go_wp2_with fail
            refine (unhide CS _ _).mono ?_
            rintro r w9 ⟨rfl, g9⟩
            have K9 := (unhide X).kd g9
            replace X := hide ((unhide X).gr g9)
            have CT := hide (m_take X m)
            simp only at CT
            rw [unhide hv, unhide her] at CT
            clear g9 k0 k1 k2
            go_wp2_with fail
            refine (unhide CT).mono ?_
            rintro r w10 ⟨rfl, X10, K10⟩
            replace X10 := hide X10
            have bw := (unhide X10).below
            have k0 := (bw.cell (p := ⟨b, off + j * 3, none⟩) hbw).trans (unhide CC).1
            have k1 := (bw.cell (p := ⟨b, off + j * 3 + 1, none⟩) hbw).trans (unhide CC).2.1
            have k2 := (bw.cell (p := ⟨b, off + j * 3 + 2, none⟩) hbw).trans (unhide CC).2.2
            have K10' := hide (K9.trans K10)
            clear bw CT K9 K10 X
            go_wp2_with fail
            refine (unhide CS _ _).mono ?_
            rintro r w11 ⟨rfl, g11⟩
            have K11 := hide ((unhide K10').trans ((unhide X10).kd g11))
            replace X10 := hide ((unhide X10).gr g11)
            have CT := hide (d_take X10 (by omega) m hgc)
            simp only at CT
            rw [unhide hv] at CT
            clear g11 k0 k1 k2 K10' CS
            go_wp2_with fail
            refine (unhide CT).mono ?_
            rintro r w12 ⟨rfl, X12, K12⟩
            have R12 := hide ((unhide R).kept fun d hd => ((unhide K11).trans K12) d (List.mem_append.2 (Or.inl hd)))
            have A12 := hide ((unhide A).kept (((unhide K11).trans K12) sb (by simp)))
            replace X12 := hide X12
            clear CT K11 K12 X10 A R
            obtain ⟨j2, hj2⟩ : ∃ j2, j + 1 = j2 := ⟨_, rfl⟩
            have hj2' := hide hj2
            obtain ⟨y, hy⟩ : ∃ y, (takeW al m).2 = y := ⟨_, rfl⟩
            rw [show (takeW al m).1 = (al.take m).1 from rfl, hy] at eT
            rw [unhide eT, hj2] at I'
            have hfin : Hid (∀ wx bo7 cb7, MS w wx L ⟨(al.take m).1, kinds, []⟩ ⟨(al.take m).1, kinds, []⟩ (j + 1) (Gy.blk bo7 ++ [sb]) → Gy.RowW wx w.heap.size bo7 cb7 ((tkJ (al0 n) l j).2 ++ [y]) → MS w wx L ⟨(tkJ (al0 n) l j2).1, kinds, []⟩ ⟨(tkJ (al0 n) l j2).1, kinds, []⟩ j2 (Gy.blk bo7 ++ [sb]) ∧ TkI l j2 (tkJ (al0 n) l j2) ∧ Gy.RowW wx w.heap.size bo7 cb7 (tkJ (al0 n) l j2).2) := hide fun wx bo7 cb7 q1 q2 => by
              have e0 : tkJ (al0 n) l j2 = ((al.take m).1, (tkJ (al0 n) l j).2 ++ [y]) := by rw [← hj2]; exact unhide eT
              rw [e0]
              exact ⟨by rw [← hj2]; exact q1, unhide I', q2⟩
            by_cases he0 : er = 0
            · have hyv : y = v := by rw [← hy]; unfold takeW; simp only; rw [unhide her, if_pos he0]; exact unhide hv
              subst he0
              rw [hyv] at hfin
              have X13 := hide ((unhide X12).gr (G.alloc w12 (.cells #[.int .i64 v] 2)))
              have R13 := hide ((unhide R12).kept fun d hd => (G.alloc w12 (.cells #[.int .i64 v] 2)).block d ((unhide R12).lo d hd).2)
              have A13 := hide ((unhide A12).kept ((G.alloc w12 (.cells #[.int .i64 v] 2)).block sb ((unhide X12).lt sb (by simp))))
              have hx : Hid ((w12.alloc (.cells #[.int .i64 v] 2)).cell? ⟨w12.heap.size, 0, none⟩ = some (.int .i64 v)) := hide (World.cell?_alloc_new _ _ _ 0)
              clear hj2 hy hyv eT I' hv her hgc hm'
              go_wp2_with (at_builtin; refine Gy.wpl_app rfl _ _ rfl j j2 (unhide hlen) (unhide hj2') rfl (unhide R13) (unhide X13).below.size w12.heap.size 1 v rfl (unhide hx) (by have := unhide hlen; omega) ?_; intro bo7 cb7 w14 AP; have Y := (unhide X13).app (unhide D) AP; have Z := hide (unhide hfin _ _ cb7 Y.1 AP.1); have A14 := hide ((unhide A13).kept (Y.2.1 sb (by simp))); have D14 := hide Y.2.2; clear AP Y X13 R13 A13 hx)
              go_roundw
              case rel =>
                exact ⟨j2, bo7, cb7, rfl, by have := unhide hj2'; go_num, by have := unhide hj2'; omega, hide (unhide Z).1, A14, hide (unhide Z).2.1, hide (unhide Z).2.2, D14⟩
              case measure => simp [intOf]; omega
            · have hyv : y = 0 := by rw [← hy]; unfold takeW; simp only; rw [unhide her, if_neg he0]
              have heb : (er != 0) = true := by simpa using he0
              rw [hyv] at hfin
              have X13 := hide ((unhide X12).gr (G.alloc w12 (.cells #[.int .i64 0] 2)))
              have R13 := hide ((unhide R12).kept fun d hd => (G.alloc w12 (.cells #[.int .i64 0] 2)).block d ((unhide R12).lo d hd).2)
              have A13 := hide ((unhide A12).kept ((G.alloc w12 (.cells #[.int .i64 0] 2)).block sb ((unhide X12).lt sb (by simp))))
              have hx : Hid ((w12.alloc (.cells #[.int .i64 0] 2)).cell? ⟨w12.heap.size, 0, none⟩ = some (.int .i64 0)) := hide (World.cell?_alloc_new _ _ _ 0)
              clear hj2 hy hyv eT I' hv her hgc hm'
              go_wp2_with (at_builtin; refine Gy.wpl_app rfl _ _ rfl j j2 (unhide hlen) (unhide hj2') rfl (unhide R13) (unhide X13).below.size w12.heap.size 1 0 rfl (unhide hx) (by have := unhide hlen; omega) ?_; intro bo7 cb7 w14 AP; have Y := (unhide X13).app (unhide D) AP; have Z := hide (unhide hfin _ _ cb7 Y.1 AP.1); have A14 := hide ((unhide A13).kept (Y.2.1 sb (by simp))); have D14 := hide Y.2.2; clear AP Y X13 R13 A13 hx)
              go_roundw
              case rel =>
                exact ⟨j2, bo7, cb7, rfl, by have := unhide hj2'; go_num, by have := unhide hj2'; omega, hide (unhide Z).1, A14, hide (unhide Z).2.1, hide (unhide Z).2.2, D14⟩
              case measure => simp [intOf]; omega
          --B>
        · obtain rfl : j = k := by omega
          obtain ⟨at_, hat⟩ : ∃ at_, (tkJ (al0 n) l j).2 = at_ := ⟨_, rfl⟩
          obtain ⟨al, hal⟩ : ∃ al, (tkJ (al0 n) l j).1 = al := ⟨_, rfl⟩
          have hW : Hid (wld n l = (wrJ at_ l al j, at_)) := hide (by unfold wld; rw [unhide hl, hat, hal])
          have hal2 : Hid (at_.length = j) := hide (by rw [← hat]; exact (unhide I).len)
          have room : Hid (∀ (i : Nat) t x, l[i]? = some t → at_[i]? = some x → x ≠ 0 → t.sz ≤ gw (al.a.clsI (gs x))) := hide fun i t x h1 h2 h3 => by rw [← hal]; exact ((unhide I).room i t x h1 (by rw [hat]; exact h2) h3).2
          have IR := hide (unhide R).is
          rw [hat] at R IR
          rw [hal] at X
          have X0 : Hid (MS w wr L ⟨wrJ at_ l al 0, kinds, []⟩ ⟨wrJ at_ l al 0, kinds, []⟩ j (Gy.blk bo ++ [sb])) := X
          have hbs : Hid (∀ d ∈ Gy.blk bo ++ [sb], d < wr.heap.size) := hide (unhide X).lt
          clear X hat hal I
          go_wp2_with fail
          go_loopw [22] (fun i wx => ∃ q : Nat, i = .int .i64 (q : Int) ∧ q ≤ j ∧ Hid (MS w wx L ⟨wrJ at_ l al q, kinds, []⟩ ⟨wrJ at_ l al q, kinds, []⟩ j (Gy.blk bo ++ [sb])) ∧ Hid (Kd wr wx (Gy.blk bo ++ [sb])))
            (fun i _ => j - (intOf i).toNat)
          case atStart => exact ⟨0, rfl, Nat.zero_le _, X0, hide (Kd.refl _ _)⟩
          case round =>
            obtain ⟨q, rfl, hq, X, KK⟩ := hrel
            clear X0
            by_cases hlt : q < j
            · obtain ⟨t, ht⟩ : ∃ t, l[q]? = some t := ⟨_, List.getElem?_eq_getElem (by have := unhide hl; omega)⟩
              obtain ⟨x, g, offa, hx, rfl, cx⟩ := (IsI_kept2 (unhide IR) (fun d hd => unhide KK d (List.mem_append.2 (Or.inl hd))) fun d hd => (unhide X).lt d (List.mem_append.2 (Or.inl hd))).at_ (i := q) (by have := unhide hal2; omega)
              rcases unhide HT with h0 | ⟨b, off, rfl, hc⟩
              · rw [h0] at ht; simp at ht
              · obtain ⟨c0, c1, ro, tc, c2, ci⟩ := hc q t ht
                have hbw := World.block_lt_of_cell? w _ c0
                have CC := hide (And.intro c0 (And.intro c1 (And.intro c2 ci)))
                have bw := (unhide X).below
                have k0 := (bw.cell (p := ⟨b, off + q * 3, none⟩) hbw).trans c0
                have k1 := (bw.cell (p := ⟨b, off + q * 3 + 1, none⟩) hbw).trans c1
                have k2 := (bw.cell (p := ⟨b, off + q * 3 + 2, none⟩) hbw).trans c2
                have eW := hide (wrJ_succ (al := al) ht hx)
                by_cases hx0 : x = 0
                · subst hx0
                  have e1 : Hid (wrJ at_ l al (q + 1) = wrJ at_ l al q) := hide (by rw [unhide eW]; unfold wr1; rw [if_pos rfl])
                  clear eW hx ht hc bw
                  go_wp2_with fail
                  go_roundw
                  case rel =>
                    exact ⟨q + 1, by go_num, by omega, hide (by rw [unhide e1]; exact unhide X), KK⟩
                  case measure => simp [intOf]; omega
                · as_aux_lemma => --<C
                      have hxb : (x == 0) = false := by simpa using hx0
                      have hxq := hide hx
                      have hrm := unhide room q t x ht hx hx0
                      have hrm' : Hid (t.sz ≤ gw ((wrJ at_ l al q).a.clsI (gs x))) := hide (by rw [wrJ_cls]; exact hrm)
                      obtain ⟨kk, hkk⟩ : ∃ kk, thk t.sh = kk := ⟨_, rfl⟩
                      have hk6 : kk < 6 := by rw [← hkk]; exact thk_lt _
                      have h7 : bits .and .i64 t.sh 7 = t.sh % 8 := and7 _
                      have h6 : Int.tmod (t.sh % 8) 6 = (kk : Int) := by rw [rem6 (by omega), ← hkk]; unfold thk; omega
                      obtain ⟨ks, kr⟩ := kinds_at ⟨kk, hk6⟩
                      obtain ⟨sk, hsk⟩ := Option.isSome_iff_exists.1 ks
                      simp only at hsk
                      have a0 := ((unhide A).kept (unhide KK sb (by simp)) kk sk hsk).1
                      obtain ⟨s1, s2⟩ := szI_r t.sh t.wd
                      obtain ⟨m, hm⟩ : ∃ m, szI t.sh t.wd = m := ⟨_, rfl⟩
                      have hm' := hide (show t.sz = m from hm)
                      have CS := hide (fun w1 sv => size_any t.sh t.wd sv w1)
                      rw [hm] at CS s1 s2
                      have hkn : Hid (sk.k = knd kk) := hide (by
                        have : ∀ i : Fin 6, ∀ s ∈ kinds[i.1]?, Hd.Shp.k s = knd i.1 := by decide
                        exact this ⟨kk, hk6⟩ sk hsk)
                      have lsb : sb < wr.heap.size := World.block_lt_of_cell? _ _ a0
                      have lbw : b < wr.heap.size := World.block_lt_of_cell? _ _ k0
                      clear hx ht hc bw hrm kr ks hsk hm c0 c1 c2
                      go_upto_region 31 with fail
                      go_cut [24, 25] (fun v24 v25 wx => v24 = .int .i64 (Hd.pkV m sk.k (kk : Int)) ∧ (∃ c, v25 = .int .i64 c) ∧ Hid (G wr wx))
                      case first =>
                        as_aux_lemma => --<D
                            have SD : Hid (∀ wx, G wr wx → (wx.cell? ⟨b, off + q * 3, none⟩ = some (.int .i64 t.sh) ∧ wx.cell? ⟨b, off + q * 3 + 1, none⟩ = some (.int .i64 t.wd) ∧ wx.cell? ⟨b, off + q * 3 + 2, none⟩ = some (.slice ro t.to.length tc) ∧ wx.cell? ⟨sb, kk * 3, none⟩ = some (.int .i64 sk.k))) := hide fun wx g => ⟨g.cell k0, g.cell k1, g.cell k2, g.cell a0⟩
                            have S0 := unhide SD _ (G.refl wr)
                            have hk6i : (kk : Int) < 6 := by omega
                            have hqj : (q : Int) < (j : Int) := by omega
                            go_wp2_with fail
                            go_region_held3 (fun wx => (wx.cell? ⟨b, off + q * 3, none⟩ = some (.int .i64 t.sh) ∧ wx.cell? ⟨b, off + q * 3 + 1, none⟩ = some (.int .i64 t.wd) ∧ wx.cell? ⟨b, off + q * 3 + 2, none⟩ = some (.slice ro t.to.length tc) ∧ wx.cell? ⟨sb, kk * 3, none⟩ = some (.int .i64 sk.k))) (first | assumption | go_keep)
                             ((first
                              | (go_at_call 37; refine (unhide CS _ _).mono ?_; rintro r w9 ⟨rfl, g9⟩; have g9' : G wr w9 := (by first | exact G.trans (G.drew (G.refl _)) g9 | exact g9); have S9 := unhide SD _ g9'; have l9 := Nat.lt_of_lt_of_le lsb g9'.size)
                              | (go_at_call 26; refine (Hd.pack_any _ _ _ _).mono ?_; rintro r w10 ⟨rfl, hw10⟩; have g10 := hide (show G wr w10 by rw [hw10]; first | exact g9'.more _ | exact (G.drew g9').more _); have S10 := unhide SD _ (unhide g10))))
                            all_goals
                              go_wp2_with fail
                              go_meet
                              case rel => exact ⟨rfl, ⟨_, rfl⟩, by first | exact g10 | exact hide (g9'.more _) | exact hide ((G.drew g9').more _)⟩
                            --D>
                      case rest =>
                        obtain ⟨rfl, ⟨cc, rfl⟩, g10⟩ := hcut
                        have X10 := hide ((unhide X).gr (unhide g10))
                        have K10 := hide ((unhide X).kd (unhide g10))
                        have cx10 := G.cell (unhide g10) cx
                        have rk0 := (unhide X10).rk0
                        have lrk := World.block_lt_of_cell? _ _ rk0
                        have lg := World.block_lt_of_cell? _ _ cx10
                        obtain ⟨hd, hhd⟩ : ∃ hd, Hd.pkV m sk.k (kk : Int) = hd := ⟨_, rfl⟩
                        have hhd2 : Hid (t.head = hd) := hide (by unfold Th.head; rw [unhide hm', hkk, ← unhide hkn]; exact hhd)
                        obtain ⟨A0, hA0⟩ : ∃ A0, wrA (wrJ at_ l al q) x ((0 : Nat) : Int) hd = A0 := ⟨_, rfl⟩
                        have hgA : Hid (m ≤ gw (A0.a.clsI (gs x))) := hide (by rw [← hA0, wrA_cls, ← unhide hm']; exact unhide hrm')
                        obtain ⟨tl, htl⟩ : ∃ tl, t.to.length = tl := ⟨_, rfl⟩
                        obtain ⟨nf, hnf⟩ : ∃ nf, min tl (m - 1).toNat = nf := ⟨_, rfl⟩
                        have eN : Hid (wrJ at_ l al (q + 1) = wrF at_ t.to x A0 nf) := hide (by rw [unhide eW]; unfold wr1 Th.nf; rw [if_neg hx0, unhide hhd2, unhide hm', hA0, htl, hnf])
                        have hA0' := hide hA0
                        have htl' := hide htl
                        rw [hhd]
                        clear hA0 htl a0 k0 k1 k2 hhd hhd2 lsb h7 h6 eW
                        go_upto_region 32 with fail
                        go_cut [161] (fun _ wx => Hid (MS w wx L ⟨wrF at_ t.to x A0 0, kinds, []⟩ ⟨wrF at_ t.to x A0 0, kinds, []⟩ j (Gy.blk (some ⟨g, offa, none⟩) ++ [sb]) ∧ Kd wr wx (Gy.blk (some ⟨g, offa, none⟩) ++ [sb])))
                        case first =>
                          as_aux_lemma => --<E
                              have S10 := And.intro rk0 cx10
                              go_wp2_with fail
                              go_region_held3 (fun wx => wx.cell? ⟨L.rk, 0, none⟩ = some (.pointer (some ⟨L.x.rb, 0, none⟩)) ∧ wx.cell? ⟨g, offa + q, none⟩ = some (.int .i64 x)) (first | assumption | go_keep) ((go_at_call 15; refine (b_put (hide (by first | exact (unhide X10).gr (G.drew (G.refl _)) | exact unhide X10)) (by omega) x hd 0 (hide fun _ => by have := unhide hrm'; have := unhide hm'; simp only; omega)).mono ?_; rintro r w11 ⟨rfl, X11, K11⟩; have S11 : w11.cell? ⟨L.rk, 0, none⟩ = some (.pointer (some ⟨L.x.rb, 0, none⟩)) ∧ w11.cell? ⟨g, offa + q, none⟩ = some (.int .i64 x) := ⟨X11.rk0, (World.cell?_of_block (a := ⟨g, offa + q, none⟩) (K11 g (by simp [Gy.blk]))).trans cx10⟩; have Y11 := hide (And.intro (show MS w w11 L ⟨wrF at_ t.to x A0 0, kinds, []⟩ ⟨wrF at_ t.to x A0 0, kinds, []⟩ j (Gy.blk (some ⟨g, offa, none⟩) ++ [sb]) by unfold wrF; rw [← unhide hA0']; exact X11) (show Kd wr w11 (Gy.blk (some ⟨g, offa, none⟩) ++ [sb]) from fun d hd => (K11 d hd).trans (unhide K10 d hd)))))
                              all_goals
                                go_wp2_with fail
                                go_meet
                                case rel => exact Y11
                              --E>
                        case rest =>
                          have Y := hcut
                          clear hcut X10 K10 cx10 rk0 lrk lg
                          go_wp2_with fail
                          go_loopw [26] (fun i wx => ∃ f : Nat, i = .int .i64 (f : Int) ∧ f ≤ nf ∧ Hid (MS w wx L ⟨wrF at_ t.to x A0 f, kinds, []⟩ ⟨wrF at_ t.to x A0 f, kinds, []⟩ j (Gy.blk (some ⟨g, offa, none⟩) ++ [sb])) ∧ Hid (Kd wr wx (Gy.blk (some ⟨g, offa, none⟩) ++ [sb])))
                            (fun i _ => nf + 1 - (intOf i).toNat)
                          case atStart => exact ⟨0, rfl, Nat.zero_le _, hide (unhide Y).1, hide (unhide Y).2⟩
                          case round =>
                            obtain ⟨f, rfl, hf, X4, K⟩ := hrel
                            clear Y
                            have bw := (unhide X4).below
                            have k0 := (bw.cell (p := ⟨b, off + q * 3, none⟩) hbw).trans (unhide CC).1
                            have k1 := (bw.cell (p := ⟨b, off + q * 3 + 1, none⟩) hbw).trans (unhide CC).2.1
                            have k2 := (bw.cell (p := ⟨b, off + q * 3 + 2, none⟩) hbw).trans (unhide CC).2.2.1
                            rw [unhide htl'] at k2
                            have ltb := World.block_lt_of_cell? _ _ k0
                            clear bw
                            by_cases hf1 : f < tl
                            · go_wp2_with fail
                              refine (unhide CS _ _).mono ?_
                              rintro r w12 ⟨rfl, g12⟩
                              have X12 := hide ((unhide X4).gr g12)
                              have K12 := hide ((unhide X4).kd g12)
                              have k2' := G.cell g12 k2
                              clear k0 k1 k2 g12
                              by_cases hf2 : (f : Int) < m - 1
                              · as_aux_lemma => --<F
                                    obtain ⟨z, gr, offr, hz, rfl, cz⟩ := (unhide CC).2.2.2.at_ (i := f) (by have := unhide htl'; omega)
                                    have cz' := ((unhide X12).below.cell (p := ⟨gr, offr + f, none⟩) (World.block_lt_of_cell? _ _ cz)).trans cz
                                    have rk0 := (unhide X12).rk0
                                    have hfz : Hid (t.to.getD f 0 = z) := hide (by rw [List.getD_eq_getElem?_getD, hz]; rfl)
                                    have ix := hide (IsI_kept2 (unhide IR) (fun d hd => ((unhide K12 d (List.mem_append.2 (Or.inl hd))).trans (unhide K d (List.mem_append.2 (Or.inl hd)))).trans (unhide KK d (List.mem_append.2 (Or.inl hd)))) fun d hd => (unhide X12).lt d (List.mem_append.2 (Or.inl hd)))
                                    have hf9 : f ≤ 63 := by omega
                                    have lgr := World.block_lt_of_cell? _ _ cz'
                                    clear hz cz
                                    go_upto_region 37 with fail
                                    go_cut [211] (fun v wx => v = .bool (decide (0 ≤ z ∧ z < (j : Int))) ∧ wx = w12)
                                    case first =>
                                      by_cases hz0 : 0 ≤ z
                                      · by_cases hzj : z < (j : Int)
                                        · have hd : decide (0 ≤ z ∧ z < (j : Int)) = true := by simp [hz0, hzj]
                                          go_wp2_with fail
                                          go_meet
                                          case rel => exact ⟨by rw [hd], rfl⟩
                                        · have hd : decide (0 ≤ z ∧ z < (j : Int)) = false := by simp [hzj]
                                          go_wp2_with fail
                                          go_meet
                                          case rel => exact ⟨by rw [hd], rfl⟩
                                      · have hd : decide (0 ≤ z ∧ z < (j : Int)) = false := by simp [hz0]
                                        go_wp2_with fail
                                        go_meet
                                        case rel => exact ⟨by rw [hd], rfl⟩
                                    case rest =>
                                      obtain ⟨rfl, rfl⟩ := hcut
                                      go_upto_if 211 with fail
                                      go_cut [27] (fun v wx => v = .int .i64 (fval at_ z) ∧ wx = wc)
                                      case first =>
                                        by_cases hzj : 0 ≤ z ∧ z < (j : Int)
                                        · obtain ⟨zz, rfl⟩ := Int.eq_ofNat_of_zero_le hzj.1
                                          have hzj2 : zz < j := by omega
                                          obtain ⟨y, g2, o2, hy, he, cy⟩ := (unhide ix).at_ (i := zz) (by have := unhide hal2; omega)
                                          obtain ⟨rfl, rfl⟩ : g = g2 ∧ offa = o2 := by injection he with he; injection he with e1 e2; exact ⟨e1, e2⟩
                                          have hfv : fval at_ (zz : Int) = y := by unfold fval; rw [if_pos ⟨by omega, by have := unhide hal2; omega⟩, List.getD_eq_getElem?_getD, Int.toNat_natCast, hy]; rfl
                                          have hd : decide (0 ≤ (zz : Int) ∧ (zz : Int) < (j : Int)) = true := by simpa using hzj
                                          clear hy he hzj
                                          go_wp2_with fail
                                          go_meet
                                          case rel => exact ⟨by rw [hfv], rfl⟩
                                        · have hfv : fval at_ z = z := by unfold fval; rw [if_neg (by rw [unhide hal2]; exact hzj)]
                                          have hd : decide (0 ≤ z ∧ z < (j : Int)) = false := by simpa using hzj
                                          go_wp2_with fail
                                          go_meet
                                          case rel => exact ⟨by rw [hfv], rfl⟩
                                      case rest =>
                                        obtain ⟨rfl, rfl⟩ := hcut
                                        obtain ⟨y, hy⟩ : ∃ y, fval at_ z = y := ⟨_, rfl⟩
                                        have hfv : Hid (fval at_ (t.to.getD f 0) = y) := hide (by rw [unhide hfz]; exact hy)
                                        obtain ⟨x', g3, o3, hx', he3, cx'⟩ := (unhide ix).at_ (i := q) (by have := unhide hal2; omega)
                                        obtain ⟨rfl, rfl⟩ : g = g3 ∧ offa = o3 := by injection he3 with he3; injection he3 with e1 e2; exact ⟨e1, e2⟩
                                        have hxx : x' = x := by have := unhide hxq; rw [this] at hx'; injection hx' with hx'; exact hx'.symm
                                        rw [hxx] at cx'
                                        rw [hy]
                                        clear hx' he3 ix hxx hy cz' k2' hfz
                                        have cS := And.intro rk0 cx'
                                        have CP : Hid (∀ wx, MS w wx L ⟨wrF at_ t.to x A0 f, kinds, []⟩ ⟨wrF at_ t.to x A0 f, kinds, []⟩ j (Gy.blk (some ⟨g, offa, none⟩) ++ [sb]) → Calls Tryz.prog 15 #[.pointer (some ⟨L.xl.d.ab, 0, none⟩), .pointer (some ⟨L.x.rb, 0, none⟩), .int .i64 x, .int .i64 (IntKind.i64.wrap (1 + (f : Int))), .int .i64 y] wx fun r w' => r = .returned (.tuple #[]) ∧ MS w w' L ⟨wrF at_ t.to x A0 (f + 1), kinds, []⟩ ⟨wrF at_ t.to x A0 (f + 1), kinds, []⟩ j (Gy.blk (some ⟨g, offa, none⟩) ++ [sb]) ∧ Kd wx w' (Gy.blk (some ⟨g, offa, none⟩) ++ [sb])) := hide fun wx h => by
                                          have h1 : Calls Tryz.prog 15 #[.pointer (some ⟨L.xl.d.ab, 0, none⟩), .pointer (some ⟨L.x.rb, 0, none⟩), .int .i64 x, .int .i64 ((1 + f : Nat) : Int), .int .i64 y] wx fun r w' => r = .returned (.tuple #[]) ∧ MS w w' L ⟨wrF at_ t.to x A0 (f + 1), kinds, []⟩ ⟨wrF at_ t.to x A0 (f + 1), kinds, []⟩ j (Gy.blk (some ⟨g, offa, none⟩) ++ [sb]) ∧ Kd wx w' (Gy.blk (some ⟨g, offa, none⟩) ++ [sb]) :=
                                            (b_put (hide h) (by omega) x y (1 + f) (hide fun _ => by have := unhide hgA; simp only [wrF_cls]; omega)).mono fun r w14 ⟨h1, h2, h3⟩ => ⟨h1, by rw [wrF, wrA, unhide hfv]; exact h2, h3⟩
                                          rw [show ((1 + f : Nat) : Int) = IntKind.i64.wrap (1 + (f : Int)) by rw [IntKind.wrap_i64]; omega] at h1
                                          exact h1
                                        clear rk0 cx'
                                        go_wp2_with fail
                                        go_region_held3 (fun wx => wx.cell? ⟨L.rk, 0, none⟩ = some (.pointer (some ⟨L.x.rb, 0, none⟩)) ∧ wx.cell? ⟨g, offa + q, none⟩ = some (.int .i64 x)) (first | assumption | go_keep) ((go_at_call 15; refine (unhide CP _ (by first | exact unhide X12 | exact (unhide X12).gr (G.drew (G.refl _)))).mono ?_; rintro r w14 ⟨rfl, X14, K14⟩; have cS' : w14.cell? ⟨L.rk, 0, none⟩ = some (.pointer (some ⟨L.x.rb, 0, none⟩)) ∧ w14.cell? ⟨g, offa + q, none⟩ = some (.int .i64 x) := ⟨X14.rk0, (World.cell?_of_block (a := ⟨g, offa + q, none⟩) (K14 g (by simp [Gy.blk]))).trans cS.2⟩; have Y14 := hide (And.intro X14 (Kd.trans (unhide K12) (show Kd wc w14 (Gy.blk (some ⟨g, offa, none⟩) ++ [sb]) from fun d hd => K14 d hd)))))
                                        all_goals
                                          clear X12 K12
                                          go_wp2_with fail
                                          go_roundw
                                          case rel => exact ⟨f + 1, by go_num, by omega, hide (unhide Y14).1, hide ((unhide K).trans (unhide Y14).2)⟩
                                          case measure => simp [intOf]; omega
                                    --F>
                              · have hfn : f = nf := by omega
                                go_wp2_with fail
                                go_roundw
                                case rel => exact ⟨q + 1, by go_num, by omega, hide (by rw [unhide eN, ← hfn]; exact unhide X12), hide (fun d hd => ((unhide K).trans (unhide K12) d hd).trans (unhide KK d hd))⟩
                                case measure => simp [intOf]; omega
                            · have hfn : f = nf := by omega
                              go_wp2_with fail
                              go_roundw
                              case rel => exact ⟨q + 1, by go_num, by omega, hide (by rw [unhide eN, ← hfn]; exact unhide X4), hide (fun d hd => ((unhide K) d hd).trans (unhide KK d hd))⟩
                              case measure => simp [intOf]; omega
                      --C>
            · obtain rfl : q = j := by omega
              go_wp2_with fail
              go_returns
              refine ⟨L, bo, cb, by rw [← unhide hkb], ?_, ?_⟩
              · rw [unhide hW]
                exact (unhide X).sub fun d hd => List.mem_append.2 (Or.inl hd)
              · rw [unhide hW]
                exact (unhide R).kept fun d hd => unhide KK d (List.mem_append.2 (Or.inl hd))
end Go.Proofs.YtinehimleldkdaaGreatDoor
