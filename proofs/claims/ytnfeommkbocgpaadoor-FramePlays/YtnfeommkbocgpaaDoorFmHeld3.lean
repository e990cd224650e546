/- held of gantlinelaw13, whatever the frames. -/
import Derived.Test.YtnfeommkbocgpaaDoorFmHeld2
namespace Go.Proofs.YtnfeommkbocgpaaDoor
open Go.RowKit Go.Maps Go.ChangeShapes Go.WideShapes Go.ChangeAt Go.Deep

theorem pf_map {L L' : List Fr} (h : L'.map pf = L.map pf) : L'.map (fun f : Fr => (f.fn, f.pc, f.sl)) = L.map (fun f : Fr => (f.fn, f.pc, f.sl)) := h
theorem pf_mem {L L' : List Fr} (h : L'.map pf = L.map pf) {f : Fr} (hf : f ∈ L') : ∃ g ∈ L, g.fn = f.fn ∧ g.pc = f.pc ∧ g.sl = f.sl := by
  obtain ⟨k, hk⟩ := List.mem_iff_getElem?.1 hf
  obtain ⟨g, hg, e1, e2, e3⟩ := pf_eq h.symm hk
  exact ⟨g, List.mem_of_getElem? hg, e1, e2, e3⟩
theorem held_more1 {w : World} {B s : Nat} {v : Value} {L : List Fr} {ft : Fr} (h : SK w B s v (L ++ [ft])) {B2 : Nat} {v2 : Value} {L2 : List Fr} (h2 : RK w B2 v2 L2) (hp : L2.map pf = (L ++ [ft]).map pf) {mv : Value} {m : Md} (hm : ModAt w mv m) (ho : ∀ f ∈ m.fn, ∀ x ∈ f.ms, oU x) (hT : RowsAt w) (hL : L.length ≤ 900) (hs : ∀ f ∈ L ++ [ft], f.sl.length ≤ 64) (hF : ∀ f ∈ L ++ [ft], ∃ F, fmAt m f.fn = some F) :
    Calls Tryd.prog 19 #[mv, .pointer (some ⟨s, 0, none⟩), v2] w fun e w' => e = .returned (.bool true) ∧ G w w' := by
  have hlen : L2.length = L.length + 1 := by have := congrArg List.length hp; simpa using this
  obtain ⟨ao2, c2, rfl, hv2⟩ := h2.v
  obtain ⟨kb2, rfl⟩ := hv2 (by omega)
  have hm0 := hm
  obtain ⟨so, sc, go, gc, co, cc, mo_, mc_, fo, fc, rfl, _, _, _, _, r5⟩ := hm
  obtain ⟨W1, hW1⟩ : ∃ W1, W1 = w.alloc (.cells #[.slice so m.sh.length sc, .slice go m.gl.length gc, .slice co m.co.length cc, .slice mo_ m.ca.length mc_, .slice fo m.fn.length fc, .int .i64 m.main] 33) := ⟨_, rfl⟩
  have gW : G w W1 := by rw [hW1]; exact G.alloc w _
  have hs2 : ∀ f ∈ L2, f.sl.length ≤ 64 := fun f hf => by
    obtain ⟨g, hg, _, _, e⟩ := pf_mem hp hf
    rw [← e]; exact hs g hg
  have hF2 : ∀ f ∈ L2, ∃ F, fmAt m f.fn = some F := fun f hf => by
    obtain ⟨g, hg, e, _, _⟩ := pf_mem hp hf
    rw [← e]; exact hF g hg
  have hst : ft.sl.length ≤ 64 := hs ft (last_mem L ft)
  rw [hlen]
  refine held_some w W1 _ m s (L.length + 1) c2 kb2 so m.sh.length sc go m.gl.length gc co m.co.length cc mo_ m.ca.length mc_ fo fc m.fn.length m.main rfl hW1 (by omega) (by omega) (L2.map (fun f : Fr => (f.fn, f.pc, f.sl))) ft.fn ft.pc ft.sl.length ft.sl (atP m ft) (hide fun k hk => ?_) (hide ?_) (hide fun x g => ?_) (hide fun x3 x b g3 hx => ?_) (hide fun x g => ?_) (hide fun x g => ?_) (hide fun x op g => ?_) (hide fun x k g => ?_) (hide fun x g => ?_)
  · refine Nat.le_trans (rtL_len m _ (fun f hf => ?_) k) (by omega)
    obtain ⟨g, hg, rfl⟩ := List.mem_map.1 hf
    have := hs2 g hg
    simp only
    omega
  · refine (s_frames (h.g gW) (by simp; omega) (fun f hf => Nat.le_trans (hs f hf) (by omega))).mono ?_
    rintro e w' ⟨v', L', rfl, q1, q2, q3⟩
    have hl' : L'.length = L.length + 1 := by have := congrArg List.length q2; simpa using this
    obtain ⟨ao1, c1, rfl, hv1⟩ := q1.v
    obtain ⟨kb1, rfl⟩ := hv1 (by omega)
    rw [hl'] at q1 ⊢
    refine ⟨kb1, c1, rfl, q3, hide fun k hk => ?_⟩
    have hk2 : k < L2.length := by omega
    have hf2 : L2[k]? = some L2[k] := List.getElem?_eq_getElem hk2
    have hm2 : L2[k] ∈ L2 := List.getElem_mem hk2
    obtain ⟨F, hFf⟩ := hF2 _ hm2
    have hkk := (h2.g (gW.trans q3))
    obtain ⟨j, fb, foff, sb1, sc1, ko, kc, io, ic, mo, mc, hj, hjl, hfo, ri, rm, HD⟩ := hd_at q1 hkk (q2.trans hp.symm) r5 (gW.trans q3) hf2 hFf (hs2 _ hm2)
    refine ⟨j, fb, foff, sb1, sc1, L2[k].sb, L2[k].sc, L2[k].sl.length, L2[k].pc, F, ko, kc, io, ic, mo, mc, L2[k].sl, hjl, hfo, hs2 _ hm2, rfl, by rw [List.getElem?_map, hf2, ← hj]; rfl, ?_, modM ho _ _, rm, fun hkn => ?_, ri, HD⟩
    · rw [← hj]
      unfold mpP
      rw [hFf]
      by_cases h0 : L2[k].pc < 0
      · rw [if_pos h0, if_neg (by omega)]
      · rw [if_neg h0, if_pos (by omega)]
        rfl
    · have hkL : k = L.length := by omega
      obtain ⟨g, hg, e1, e2, e3⟩ := pf_eq hp.symm hf2
      rw [hkL, last_get] at hg
      obtain rfl := Option.some.inj hg
      refine ⟨e2, e3, ?_⟩
      unfold atP
      rw [e2, e1, hFf]
      rfl
  · refine (s_top (h.g (gW.trans g)) (by omega) _ rfl (by omega)).mono ?_
    rintro e w' ⟨b, c, rfl, q⟩
    exact ⟨b, c, rfl, q.2⟩
  · have gx := gW.trans (g3.trans hx.2)
    refine (s_roots (h.g gx) (by simp; omega) hs (hm0.g gx) (mod_form hm0) ho).mono ?_
    rintro e w' ⟨v', rfl, q⟩
    have hP : (L ++ [ft]).map (fun f : Fr => (f.fn, f.pc, f.sl)) = L2.map (fun f : Fr => (f.fn, f.pc, f.sl)) := pf_map hp.symm
    rw [hP] at q
    have hll : (L ++ [ft]).length = L.length + 1 := by simp
    rw [hll] at q
    refine ⟨v', rfl, q.2, hide ?_⟩
    obtain ⟨ao3, c3, e3, r3⟩ := q.row
    obtain ⟨ao4, c4, e4, r4⟩ := (hx.g q.2).row
    rw [e3, e4]
    have hlr : (rtL m (L2.map (fun f : Fr => (f.fn, f.pc, f.sl))) (L.length + 1)).length ≤ 1000000 := Nat.le_trans (rtL_len m _ (fun f hf => by
      obtain ⟨g, hg, rfl⟩ := List.mem_map.1 hf
      have := hs2 g hg
      simp only
      omega) _) (by omega)
    refine (nums_eq w' _ _ _ _ _ _ r3 r4 hlr).mono ?_
    rintro e w2 ⟨rfl, k, rfl⟩
    exact ⟨rfl, G.drewN _ _⟩
  · exact s_at (h.g (gW.trans g)) (by omega) (hm0.g (gW.trans g))
  · exact s_point (h.g (gW.trans g)) (by omega) (hm0.g (gW.trans g)) (hT.g (gW.trans g))
  · exact point_any x op (hT.g (gW.trans g))
  · refine (s_get (h.g (gW.trans g)) (by simp; omega) k).mono ?_
    rintro e w' ⟨rfl, q, rfl⟩
    rw [getP_app]
    exact ⟨rfl, G.drewN _ _⟩
  · refine (s_depth (h.g (gW.trans g))).mono ?_
    rintro e w' ⟨rfl, rfl⟩
    exact ⟨by simp, rfl⟩
set_option maxRecDepth 100000 in
set_option maxHeartbeats 2000000 in
theorem held_none {w : World} {B s : Nat} {v : Value} (h : SK w B s v []) (ao2 : Option Addr) (c2 : Nat) {mv : Value} {m : Md} (hm : ModAt w mv m) (ho : ∀ f ∈ m.fn, ∀ x ∈ f.ms, oU x) :
    Calls Tryd.prog 19 #[mv, .pointer (some ⟨s, 0, none⟩), .slice ao2 0 c2] w fun e w' => e = .returned (.bool true) ∧ G w w' := by
  have FR : Hid (∀ x, G w x → Calls Tryd.prog 21 #[.pointer (some ⟨s, 0, none⟩)] x fun e w' => ∃ ao c, e = .returned (.slice ao 0 c) ∧ G x w') := hide fun x g => (s_frames (h.g g) (by simp) (fun f hf => by cases hf)).mono (by
    rintro e w' ⟨v', L', rfl, q1, q2, q3⟩
    obtain rfl : L' = [] := by cases L' with
      | nil => rfl
      | cons a l => cases q2
    obtain ⟨ao, c, rfl, _⟩ := q1.v
    exact ⟨ao, c, rfl, q3⟩)
  have TP : Hid (∀ x, G w x → Calls Tryd.prog 20 #[.pointer (some ⟨s, 0, none⟩)] x fun e w' => e = .returned (.tuple #[.agg #[.int .i64 0, .int .i64 0, .slice none 0 0], .bool false]) ∧ G x w') := hide fun x g => s_top_none (h.g g)
  have DP : Hid (∀ x, G w x → Calls Tryd.prog 11 #[.pointer (some ⟨s, 0, none⟩)] x fun e w' => e = .returned (.int .i64 0) ∧ w' = x) := hide fun x g => s_depth (h.g g)
  have CR : Hid (∀ x, G w x → Calls Tryd.prog 23 #[.pointer (some ⟨s, 0, none⟩), mv] x fun e w' => ∃ ao c, e = .returned (.slice ao 0 c) ∧ G x w' ∧ Hid (Calls Tryd.prog 29 #[.slice ao 0 c, .slice none 0 0] w' fun e w2 => e = .returned (.bool true) ∧ G w' w2)) := hide fun x g => (s_roots (h.g g) (by simp) (fun f hf => by cases hf) (hm.g g) (mod_form hm) ho).mono (by
    rintro e w' ⟨v', rfl, q⟩
    obtain ⟨ao, c, e3, r3⟩ := q.row
    refine ⟨ao, c, by rw [e3]; rfl, q.2, hide ((nums_eq w' [] 0 ao none c 0 r3 (RowAt.nil w') (by omega)).mono ?_)⟩
    rintro e w2 ⟨rfl, k, rfl⟩
    exact ⟨rfl, G.drewN _ _⟩)
  obtain ⟨so, sc, go, gc, co, cc, mo_, mc_, fo, fc, rfl, _, _, _, _, _⟩ := hm
  clear h ho
  go_enter Tryd.func19, Tryd.ntmps19
  go_wp2_with fail
  refine (unhide FR _ (G.alloc _ _)).mono ?_
  rintro e x1 ⟨ao1, c1, rfl, g1⟩
  have G1 := hide g1
  clear g1 FR
  go_wp2_with fail
  refine (unhide TP _ ((G.alloc _ _).trans (unhide G1))).mono ?_
  rintro e x2 ⟨rfl, g2⟩
  have G2 := hide ((unhide G1).trans g2)
  clear g2 TP G1
  go_wp2_with fail
  refine (unhide DP _ (((G.alloc _ _).trans (unhide G2)).more _)).mono ?_
  rintro e x3 ⟨rfl, rfl⟩
  clear DP
  have G3 := hide ((unhide G2).more (.cells #[.int .i64 0, .int .i64 0, .slice none 0 0] 46))
  have c0 := (unhide G3).cell (x := ⟨w.heap.size, 0, none⟩) (v := .slice so m.sh.length sc) (by simp [go_sem])
  have c1' := (unhide G3).cell (x := ⟨w.heap.size, 1, none⟩) (v := .slice go m.gl.length gc) (by simp [go_sem])
  have c2' := (unhide G3).cell (x := ⟨w.heap.size, 2, none⟩) (v := .slice co m.co.length cc) (by simp [go_sem])
  have c3 := (unhide G3).cell (x := ⟨w.heap.size, 3, none⟩) (v := .slice mo_ m.ca.length mc_) (by simp [go_sem])
  have c4 := (unhide G3).cell (x := ⟨w.heap.size, 4, none⟩) (v := .slice fo m.fn.length fc) (by simp [go_sem])
  have c5 := (unhide G3).cell (x := ⟨w.heap.size, 5, none⟩) (v := .int .i64 m.main) (by simp [go_sem])
  obtain ⟨X, hX⟩ : ∃ X, X = x2.alloc (.cells #[.int .i64 0, .int .i64 0, .slice none 0 0] 46) := ⟨_, rfl⟩
  rw [← hX] at G3 c0 c1' c2' c3 c4 c5
  go_upto_region 5 with fail
  rw [← hX]
  clear hX
  go_wp2_with fail
  go_loopw [10, 11] (fun b i wr => b = .slice none 0 0 ∧ i = .int .i64 0 ∧ wr = X) (fun _ _ _ => 0)
  case atStart => exact ⟨rfl, rfl, rfl⟩
  case round =>
    obtain ⟨rfl, rfl, rfl⟩ := hrel
    go_wp2_with fail
    refine (unhide CR _ ((G.alloc _ _).trans (unhide G3))).mono ?_
    rintro e x4 ⟨ao4, c4', rfl, g4, CN⟩
    have G4 := hide ((unhide G3).trans g4)
    clear g4 CR
    go_wp2_with fail
    refine (unhide CN).mono ?_
    rintro e x5 ⟨rfl, g5⟩
    have G5 := hide ((G.alloc w _).trans ((unhide G4).trans g5))
    clear g5 CN
    go_wp2_with fail
    go_ret
    exact ⟨rfl, unhide G5⟩
theorem held_any {w : World} {B s : Nat} {v : Value} {L : List Fr} (h : SK w B s v L) {B2 : Nat} {v2 : Value} {L2 : List Fr} (h2 : RK w B2 v2 L2) (hp : L2.map pf = L.map pf) {mv : Value} {m : Md} (hm : ModAt w mv m) (ho : ∀ f ∈ m.fn, ∀ x ∈ f.ms, oU x) (hT : RowsAt w) (hL : L.length ≤ 900) (hs : ∀ f ∈ L, f.sl.length ≤ 64) (hF : ∀ f ∈ L, ∃ F, fmAt m f.fn = some F) :
    Calls Tryd.prog 19 #[mv, .pointer (some ⟨s, 0, none⟩), v2] w fun e w' => e = .returned (.bool true) ∧ G w w' := by
  rcases List.eq_nil_or_concat L with rfl | ⟨L, f, rfl⟩
  · obtain rfl : L2 = [] := by cases L2 with
      | nil => rfl
      | cons a l => cases hp
    obtain ⟨ao, c, rfl, _⟩ := h2.v
    exact held_none h ao c hm ho
  · rw [List.concat_eq_append] at h hp hL hs hF
    exact held_more1 h h2 hp hm ho hT (by simp at hL; omega) hs hF
end Go.Proofs.YtnfeommkbocgpaaDoor
