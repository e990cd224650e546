/- MarkHeads of package gantlinelaw7: the law answers true; nothing that was there is turned. -/
import Derived.Test.YtinehimleldkdaaGreatDoorMarkAwake
namespace Go.Proofs.YtinehimleldkdaaGreatDoor
set_option maxRecDepth 100000
open Go.ChangeShapes Go.WideShapes Go.ChangeAt Go.RowKit Go.Maps Go.Deep

def lH : List Th := [⟨4, 4, [1, 1, 1]⟩, ⟨0, 0, []⟩]
def oH (w : World) : World := (w.alloc (.cells #[.int .i64 1, .int .i64 1, .int .i64 1] 3)).alloc (.cells #[.int .i64 4, .int .i64 4, .slice (some ⟨w.heap.size, 0, none⟩) 3 3, .int .i64 0, .int .i64 0, .slice none 0 0] 51)
theorem ths_lH (w : World) : ThsAt (oH w) (some ⟨w.heap.size + 1, 0, none⟩) lH := by
  unfold oH
  obtain ⟨w1, h1⟩ : ∃ w1, w.alloc (.cells #[.int .i64 1, .int .i64 1, .int .i64 1] 3) = w1 := ⟨_, rfl⟩
  have hs : w1.heap.size = w.heap.size + 1 := by rw [← h1, World.size_alloc]
  have hc : ∀ j : Nat, j < 3 → w1.cell? ⟨w.heap.size, j, none⟩ = some (.int .i64 1) := fun j hj => by
    rw [← h1, World.cell?_alloc_new]
    match j, hj with
    | 0, _ => rfl
    | 1, _ => rfl
    | 2, _ => rfl
  rw [h1]
  refine Or.inr ⟨w.heap.size + 1, 0, rfl, fun i t hi => ?_⟩
  rw [← hs]
  match i, hi with
  | 0, hi =>
    cases hi
    refine ⟨by rw [World.cell?_alloc_new]; rfl, by rw [World.cell?_alloc_new]; rfl, some ⟨w.heap.size, 0, none⟩, 3, by rw [World.cell?_alloc_new]; rfl, Or.inr ⟨w.heap.size, 0, rfl, by rw [World.size_alloc]; omega, fun j x hj => ?_⟩⟩
    match j, hj with
    | 0, hj => cases hj; exact (G.alloc w1 _).cell (hc 0 (by omega))
    | 1, hj => cases hj; exact (G.alloc w1 _).cell (hc 1 (by omega))
    | 2, hj => cases hj; exact (G.alloc w1 _).cell (hc 2 (by omega))
    | j + 3, hj => simp at hj
  | 1, hi =>
    cases hi
    exact ⟨by rw [World.cell?_alloc_new]; rfl, by rw [World.cell?_alloc_new]; rfl, none, 0, by rw [World.cell?_alloc_new]; rfl, Or.inl rfl⟩
  | i + 2, hi => simp [lH] at hi
def hdN (x : Nat) : Nat := if x ≤ 4 then x - 1 else 0
theorem heads_all : ∀ i : Fin 64, (⟨⟨(wld 8 lH).1.a.writeA 64 ((0 : Nat) : Int) (Hd.pkV ((i.1 + 1 : Nat) : Int) 1 4), (wld 8 lH).1.u⟩, kinds, []⟩ : Ms).flds 64 = List.replicate (hdN (i.1 + 1)) 128 := by decide +kernel

set_option maxHeartbeats 4000000 in
theorem heads_core (world_any : WorldC) (x : Int) (w : World) (ht : Hid (Tab w)) (al : Al) (hal : Hid (wld 8 lH = (al, [64, 128]))) (hg : Hid (4 ≤ gw (al.a.clsI (gs 64))))
    (hf : Hid (∀ i : Nat, 1 ≤ i → i ≤ 64 → (⟨⟨al.a.writeA 64 ((0 : Nat) : Int) (Hd.pkV (i : Int) 1 4), al.u⟩, kinds, []⟩ : Ms).flds 64 = List.replicate (hdN i) 128)) :
    Calls Tryz.prog 7 #[.int .i64 x] w fun e w' => e = .returned (.bool true) ∧ G w w' := by
  go_enter Tryz.func7, Tryz.ntmps7
  go_wp2_with fail
  refine (awake7 world_any w (unhide ht)).mono ?_
  rintro r w1 ⟨rfl, g1⟩
  have gA : Hid (G w (oH w1)) := hide (g1.trans ((G.alloc _ _).more _))
  have CW := hide (world_any (oH w1) (hide ((unhide ht).later (unhide gA))) 8 (by decide) (by decide) (some ⟨w1.heap.size + 1, 0, none⟩) 2 2 lH (hide rfl) (by decide) (hide (ths_lH w1)))
  rw [unhide hal] at CW
  simp only at CW
  obtain ⟨W, hW⟩ : ∃ W, oH w1 = W := ⟨_, rfl⟩
  have CW' : Hid (Calls Tryz.prog 9 #[.int .i64 8, .slice (some ⟨w1.heap.size + 1, 0, none⟩) 2 2] ((w1.alloc (.cells #[.int .i64 1, .int .i64 1, .int .i64 1] 3)).alloc (.cells #[.int .i64 4, .int .i64 4, .slice (some ⟨w1.heap.size, 0, none⟩) 3 3, .int .i64 0, .int .i64 0, .slice none 0 0] 51)) fun r w' => ∃ L bo cb, r = .returned (.tuple #[.pointer (some ⟨L.kb, 0, none⟩), .pointer (some ⟨L.rk, 0, none⟩), .pointer (some ⟨L.xl.d.ab, 0, none⟩), .slice bo 2 cb]) ∧ MS W w' L ⟨al, kinds, []⟩ ⟨al, kinds, []⟩ 2 (Gy.blk bo) ∧ Gy.RowW w' W.heap.size bo cb [64, 128]) := hide (by
    have := unhide CW
    rw [hW] at this
    rw [← hW] at this ⊢
    exact this)
  rw [hW] at gA
  clear CW g1 hW
  go_wp2_with fail
  refine (unhide CW').mono ?_
  rintro r w3 ⟨L, bo, cb, rfl, X, R⟩
  rcases R.is with h0 | ⟨ga, oa, rfl, hga, hca⟩
  · cases h0
  have c0 : w3.cell? ⟨ga, oa, none⟩ = some (.int .i64 64) := hca 0 64 rfl
  have c1 : w3.cell? ⟨ga, oa + 1, none⟩ = some (.int .i64 128) := hca 1 128 rfl
  replace X := hide X
  clear CW' R hca
  go_wp2_with fail
  refine (Hd.pack_any _ _ _ _).mono ?_
  rintro r w4 ⟨rfl, hw4⟩
  have g4 : G w3 w4 := by rw [hw4]; exact G.alloc _ _
  have X4 := hide ((unhide X).gr g4)
  have hb4 := hide ((unhide gA).trans (unhide X4).below)
  replace c0 := g4.cell c0
  replace c1 := g4.cell c1
  clear hw4 g4 X hga
  by_cases hok : Hd.hokB x 1 4 = true
  · have e0 : Hd.pkE x 1 4 = 0 := by unfold Hd.pkE; rw [if_pos hok]
    rw [e0]
    obtain ⟨xn, hx1, hx2, rfl⟩ : ∃ xn : Nat, 1 ≤ xn ∧ xn ≤ 64 ∧ x = (xn : Int) := by
      simp [Hd.hokB, Hd.inB] at hok
      exact ⟨x.toNat, by omega, by omega, by omega⟩
    have eF := hide (unhide hf xn hx1 hx2)
    obtain ⟨v, hv⟩ : ∃ v, Hd.pkV (xn : Int) 1 4 = v := ⟨_, rfl⟩
    rw [hv] at eF
    rw [hv]
    have rk0 := (unhide X4).rk0
    have lrk := World.block_lt_of_cell? _ _ rk0
    have lga := World.block_lt_of_cell? _ _ c0
    have l0 : Hid (∀ wx, Kd w4 wx (Gy.blk (some ⟨ga, oa, none⟩)) → wx.cell? ⟨ga, oa, none⟩ = some (.int .i64 64) ∧ wx.cell? ⟨ga, oa + 1, none⟩ = some (.int .i64 128)) := hide fun wx k => ⟨(World.cell?_of_block (a := ⟨ga, oa, none⟩) (k ga (by simp [Gy.blk]))).trans c0, (World.cell?_of_block (a := ⟨ga, oa + 1, none⟩) (k ga (by simp [Gy.blk]))).trans c1⟩
    clear hok e0 hv
    obtain ⟨M, hM⟩ : ∃ M : Ms, ⟨⟨al.a.writeA 64 ((0 : Nat) : Int) v, al.u⟩, kinds, []⟩ = M := ⟨_, rfl⟩
    have hM' := hide hM
    rw [hM] at eF
    clear hM
    go_upto_region 9 with fail
    go_cut [54] (fun _ wx => Hid (MS W wx L M M 2 (Gy.blk (some ⟨ga, oa, none⟩)) ∧ Kd w4 wx (Gy.blk (some ⟨ga, oa, none⟩))))
    case first =>
      have cS := And.intro rk0 c0
      clear rk0
      go_wp2_with fail
      go_region_held3 (fun wx => wx.cell? ⟨L.rk, 0, none⟩ = some (.pointer (some ⟨L.x.rb, 0, none⟩)) ∧ wx.cell? ⟨ga, oa, none⟩ = some (.int .i64 64)) (first | assumption | go_keep) ((go_at_call 15; refine (b_put (hide (by first | exact (unhide X4).gr (G.drew (G.refl _)) | exact unhide X4)) (by omega) 64 v 0 (hide fun _ => by have := unhide hg; simp only; omega)).mono ?_; rintro r w5 ⟨rfl, X5, K5⟩; have cS' : w5.cell? ⟨L.rk, 0, none⟩ = some (.pointer (some ⟨L.x.rb, 0, none⟩)) ∧ w5.cell? ⟨ga, oa, none⟩ = some (.int .i64 64) := ⟨X5.rk0, (World.cell?_of_block (a := ⟨ga, oa, none⟩) (K5 ga (by simp [Gy.blk]))).trans cS.2⟩; have Y5 := hide (And.intro (show MS W w5 L M M 2 (Gy.blk (some ⟨ga, oa, none⟩)) by rw [← unhide hM']; exact X5) (show Kd w4 w5 (Gy.blk (some ⟨ga, oa, none⟩)) from fun d hd => K5 d hd))))
      all_goals
        go_wp2_with fail
        go_meet
        case rel => exact Y5
    case rest =>
      obtain ⟨X5, K5⟩ := unhide hcut
      obtain ⟨p0, p1⟩ := unhide l0 _ K5
      have gE := hide ((unhide gA).trans X5.below)
      have X6 := hide X5
      have CF := hide (m_fields X6 64)
      rw [unhide eF] at CF
      simp only [List.length_replicate] at CF
      clear hcut X5 K5 l0 c0 c1 rk0 lrk lga eF X4
      obtain ⟨nf, hnf⟩ : ∃ nf, hdN xn = nf := ⟨_, rfl⟩
      rw [hnf] at CF
      by_cases h4 : xn ≤ 4
      · have e1 : xn = nf + 1 := by rw [← hnf]; unfold hdN; rw [if_pos h4]; omega
        subst e1
        have e2 : ((nf + 1 : Nat) : Int) - 1 = (nf : Int) := by omega
        have e3 : (((nf + 1 : Nat) : Int) > 4) = False := by simp; omega
        go_wp2_with fail
        refine (unhide CF).mono ?_
        rintro r w6 ⟨ao, cf, rfl, RF, g6⟩
        have q1 := g6.cell p1
        have hr := hide RF.is
        have gE6 := hide ((unhide gE).trans g6)
        clear RF g6 CF X6 p0 p1
        go_wp2_with fail
        go_loopw [11] (fun c wr => ∃ j : Nat, j ≤ nf ∧ c = .int .i64 j ∧ Hid (G w6 wr)) (fun c _ => nf - (intOf c).toNat)
        case atStart => exact ⟨0, Nat.zero_le _, rfl, hide (G.refl _)⟩
        case round =>
          obtain ⟨j, hj, rfl, g⟩ := hrel
          by_cases hjn : j = nf
          · subst hjn
            go_wp2_with fail
            go_ret
            exact ⟨rfl, (unhide gE6).trans (unhide g)⟩
          · have hjl : (j : Int) < (nf : Int) := by omega
            obtain ⟨z, b1, o1, z1, rfl, y1⟩ := ((unhide hr).g (unhide g)).at_ (i := j) (by simp; omega)
            obtain rfl : z = 128 := by rw [List.getElem?_replicate, if_pos (by omega)] at z1; injection z1 with z1; exact z1.symm
            have y2 := G.cell (unhide g) q1
            have b1l := World.block_lt_of_cell? _ _ y1
            clear z1
            go_wp2_with fail
            go_quiet (fail)
            go_wp2_with fail
            go_roundw
            case rel => exact ⟨j + 1, by omega, by go_num, hide ((unhide g).trans (G.drewN _ _))⟩
            case measure => simp [intOf]; omega
      · obtain rfl : nf = 0 := by rw [← hnf]; unfold hdN; rw [if_neg h4]
        have e3 : (4 : Int) < (xn : Int) := by omega
        go_wp2_with fail
        refine (unhide CF).mono ?_
        rintro r w6 ⟨ao, cf, rfl, RF, g6⟩
        have gE6 := hide ((unhide gE).trans g6)
        clear RF g6 CF X6 p1
        go_wp2_with fail
        go_loopw [11] (fun c wr => c = .int .i64 0 ∧ wr = w6) (fun _ _ => 0)
        case atStart => exact ⟨rfl, rfl⟩
        case round =>
          obtain ⟨rfl, rfl⟩ := hrel
          go_wp2_with fail
          go_ret
          exact ⟨rfl, unhide gE6⟩
  · have e0 : Hd.pkE x 1 4 = 1 := by unfold Hd.pkE; rw [if_neg hok]
    rw [e0]
    by_cases h1 : x < 1
    · go_wp2_with fail
      go_ret
      exact ⟨rfl, unhide hb4⟩
    · have h2 : 64 < x := by
        simp [Hd.hokB, Hd.inB] at hok
        omega
      go_wp2_with fail
      go_ret
      exact ⟨rfl, unhide hb4⟩
theorem walkC_MarkHeads (world_any : WorldC) (a0 : Int) (w : World) (ht : Tab w) : Calls Tryz.prog 7 #[.int .i64 a0] w fun e w' => e = .returned (.bool true) ∧ Below w.heap.size w w' :=
  heads_core world_any a0 w (hide ht) _ (hide (pair_eq (by decide +kernel))) (hide (by decide +kernel)) (hide fun i h1 h2 => by
    have := heads_all ⟨i - 1, by omega⟩
    simp only [show i - 1 + 1 = i by omega] at this
    exact this)
end Go.Proofs.YtinehimleldkdaaGreatDoor
