/- awake of gantlinelaw13. -/
import Derived.Test.YtnfeommkbocgpaaDoorFmAwake
namespace Go.Proofs.YtnfeommkbocgpaaDoor
open Go.RowKit Go.Maps Go.ChangeShapes Go.WideShapes Go.ChangeAt Go.Deep

theorem two_roots : rtL twoM [(0, 0, [7, 64])] 1 = [64] := by decide
theorem a_roots {W w : World} {B s sb c : Nat} {v : Value} {KC : List (Addr × Value)} (h : AwS W w B s v [⟨0, 0, sb, c, [7, 64]⟩] KC) {fb : Nat} (hm : ModAt w (agTwo fb) twoM) :
    Calls Tryd.prog 23 #[.pointer (some ⟨s, 0, none⟩), agTwo fb] w fun e w' => ∃ b c', e = .returned (.slice (some ⟨b, 0, none⟩) 1 c') ∧ AwS W w' B s v [⟨0, 0, sb, c, [7, 64]⟩] ((⟨b, 0, none⟩, .int .i64 64) :: KC) := by
  refine (s_roots h.sk (by simp) (fun f hf => by simp at hf; subst hf; simp) hm (mod_form hm) two_ms).mono ?_
  rintro e w' ⟨v', rfl, h1, h2⟩
  have e1 : rtL twoM (([⟨0, 0, sb, c, [7, 64]⟩] : List Fr).map (fun f : Fr => (f.fn, f.pc, f.sl))) ([⟨0, 0, sb, c, [7, 64]⟩] : List Fr).length = [64] := two_roots
  rw [e1] at h1
  rcases h1.2 with ⟨_, h0⟩ | ⟨b, cap, cur, rfl, hb, _⟩
  · cases h0
  · exact ⟨b, cap, rfl, h.add (h.gr h2) ⟨b, 0, none⟩ _ (World.ownsRow.cellAt h1 0 (by simp)) hb⟩
theorem a_at {W w : World} {B s sb c : Nat} {v : Value} {sl : List Int} {KC : List (Addr × Value)} (h : AwS W w B s v [⟨0, 0, sb, c, sl⟩] KC) {fb : Nat} (hm : ModAt w (agTwo fb) twoM) :
    Calls Tryd.prog 22 #[.pointer (some ⟨s, 0, none⟩), agTwo fb] w fun e w' => e = .returned (.tuple #[.agg #[.int .i64 43, .int .i64 0, .int .i64 0, .int .i64 0, .int .i64 0], .bool true]) ∧ AwS W w' B s v [⟨0, 0, sb, c, sl⟩] KC ∧ G w w' := by
  refine (s_at (L := []) h.sk (by simp) hm).mono ?_
  rintro e w' ⟨rfl, g⟩
  exact ⟨rfl, h.gr g, g⟩
theorem pt43 : (rwOf 43).pt = true := by decide
theorem a_point {W w : World} (hT : RowsAt W) {B s sb c : Nat} {v : Value} {sl : List Int} {KC : List (Addr × Value)} (h : AwS W w B s v [⟨0, 0, sb, c, sl⟩] KC) {fb : Nat} (hm : ModAt w (agTwo fb) twoM) :
    Calls Tryd.prog 24 #[.pointer (some ⟨s, 0, none⟩), agTwo fb] w fun e w' => e = .returned (.bool true) ∧ AwS W w' B s v [⟨0, 0, sb, c, sl⟩] KC := by
  refine (s_point (L := []) h.sk (by simp) hm (hT.g h.g)).mono ?_
  rintro e w' ⟨rfl, g⟩
  exact ⟨by show Ending.returned (.bool (rwOf 43).pt) = _; rw [pt43], h.gr g⟩
theorem a_top {W w : World} {B s : Nat} {v : Value} {L : List Fr} {f : Fr} {KC : List (Addr × Value)} (h : AwS W w B s v (L ++ [f]) KC) (hl : L.length ≤ 1000) (x y : Int) (hsl : f.sl = [x, y]) :
    Calls Tryd.prog 20 #[.pointer (some ⟨s, 0, none⟩)] w fun e w' => ∃ b c, e = .returned (.tuple #[agFr f.fn f.pc b 2 c, .bool true]) ∧ AwS W w' B s v (L ++ [f]) ((⟨b, 0, none⟩, .int .i64 x) :: KC) ∧ w.heap.size ≤ b ∧ w'.ownsRow w.heap.size 2 1 (.slice (some ⟨b, 0, none⟩) 2 c) 2 [.int .i64 x, .int .i64 y] ∧ G w w' := by
  refine (s_top h.sk hl 2 (by rw [hsl]; rfl) (by rw [hsl]; simp)).mono ?_
  rintro e w' ⟨b, c, rfl, h1, h2⟩
  rw [hsl] at h1
  have hc := World.ownsRow.cellAt h1 0 (by simp)
  exact ⟨b, c, rfl, h.add (h.gr h2) ⟨b, 0, none⟩ _ hc (own_lo h1), own_lo h1, h1, h2⟩
theorem a_frames {W w : World} {B s : Nat} {v : Value} {L : List Fr} {KC : List (Addr × Value)} (h : AwS W w B s v L KC) (hl : L.length ≤ 1000) (hs : ∀ f ∈ L, f.sl.length ≤ 1000) (n : Nat) (hn : L.length = n) (h0 : 0 < n) :
    Calls Tryd.prog 21 #[.pointer (some ⟨s, 0, none⟩)] w fun e w' => ∃ kb c L', e = .returned (.slice (some ⟨kb, 0, none⟩) n c) ∧ AwS W w' B s v L KC ∧ RK w' w.heap.size (.slice (some ⟨kb, 0, none⟩) n c) L' ∧ L'.map pf = L.map pf ∧ G w w' := by
  refine (s_frames h.sk hl hs).mono ?_
  rintro e w' ⟨v', L', rfl, h1, h2, h3⟩
  have hln : L'.length = n := by have := congrArg List.length h2; simp at this; omega
  obtain ⟨ao, c, rfl, hv⟩ := h1.v
  obtain ⟨kb, rfl⟩ := hv (by omega)
  rw [hln] at h1 ⊢
  exact ⟨kb, c, L', rfl, h.gr h3, h1, h2, h3⟩
theorem a_frames2 {W w : World} {B s : Nat} {v : Value} {f g : Fr} {KC : List (Addr × Value)} (h : AwS W w B s v [f, g] KC) (hs : f.sl.length ≤ 1000 ∧ g.sl.length ≤ 1000) :
    Calls Tryd.prog 21 #[.pointer (some ⟨s, 0, none⟩)] w fun e w' => ∃ kb c, e = .returned (.slice (some ⟨kb, 0, none⟩) 2 c) ∧ AwS W w' B s v [f, g] ((⟨kb, 4, none⟩, .int .i64 g.pc) :: KC) := by
  refine (a_frames h (by simp) (fun y hy => by simp at hy; rcases hy with rfl | rfl; exact hs.1; exact hs.2) 2 rfl (by decide)).mono ?_
  rintro e w' ⟨kb, c, L', rfl, h1, h2, h3, h4⟩
  have hg : ∃ g', L'[1]? = some g' ∧ g'.pc = g.pc := by
    have := congrArg (·[1]?) h3
    simp only [List.getElem?_map] at this
    cases hq : L'[1]? with
    | none => rw [hq] at this; cases this
    | some g' =>
      rw [hq] at this
      refine ⟨g', rfl, ?_⟩
      have := Option.some.inj this
      exact congrArg (fun p => p.2.1) this
  obtain ⟨g', hg1, hg2⟩ := hg
  have hc := (h2.get hg1).2.1
  rw [hg2] at hc
  exact ⟨kb, c, rfl, h.add h1 ⟨kb, 4, none⟩ _ hc (h2.lt kb (Or.inl rfl)).2⟩
set_option maxHeartbeats 4000000 in
theorem awake13 (W : World) (hT : RowsAt W) : Calls Tryd.prog 7 #[] W fun e w' => e = .returned (.bool true) ∧ G W w' := by
  have TW := hide two_g
  have TB := hide hT
  clear hT
  go_enter Tryd.func7, Tryd.ntmps7
  go_wp2_with fail
  refine (unhide TW _).mono ?_
  rintro e w1 ⟨fb1, rfl, m1, g1⟩
  have M1 := hide (show _ ∧ _ from ⟨m1, g1⟩)
  clear m1 g1
  unfold agTwo
  go_wp2_with fail
  refine (a_new (unhide M1).2 (unhide M1).1 7 _ rfl).mono ?_
  rintro e w2 ⟨s, v2, sb, rfl, X2, _⟩
  replace X2 := hide X2
  clear M1
  go_wp2_with fail
  refine (a_get (unhide X2) (by simp) 0 7 rfl).mono ?_
  rintro e w3 ⟨rfl, X3⟩
  replace X3 := hide X3
  clear X2
  go_wp2_with fail
  refine (a_get (unhide X3) (by simp) 1 0 rfl).mono ?_
  rintro e w4 ⟨rfl, X4⟩
  replace X4 := hide X4
  clear X3
  go_wp2_with fail
  refine (a_set (L' := [⟨0, 0, sb, 2, [7, 64]⟩]) (unhide X4) (by simp) 1 64 rfl).mono ?_
  rintro e w5 ⟨rfl, X5⟩
  replace X5 := hide X5
  clear X4
  go_wp2_with fail
  refine (unhide TW _).mono ?_
  rintro e w6 ⟨fb6, rfl, m6, g6⟩
  have X6 := hide (show _ ∧ _ from ⟨(unhide X5).gr g6, m6⟩)
  clear m6 g6 X5
  unfold agTwo
  go_wp2_with fail
  refine (a_roots (unhide X6).1 (unhide X6).2).mono ?_
  rintro e w7 ⟨rb, rc, rfl, X7⟩
  replace X7 := hide X7
  clear X6
  go_wp2_with fail
  refine (unhide TW _).mono ?_
  rintro e w8 ⟨fb8, rfl, m8, g8⟩
  have X8 := hide (show _ ∧ _ from ⟨(unhide X7).gr g8, m8⟩)
  clear m8 g8 X7
  unfold agTwo
  go_wp2_with fail
  refine (a_at (unhide X8).1 (unhide X8).2).mono ?_
  rintro e w9 ⟨rfl, X9, _⟩
  replace X9 := hide X9
  clear X8
  go_wp2_with fail
  refine (unhide TW _).mono ?_
  rintro e w10 ⟨fb10, rfl, m10, g10⟩
  have X10 := hide (show _ ∧ _ from ⟨(unhide X9).add ((unhide X9).gr ((G.alloc _ _).trans g10)) ⟨w9.heap.size, 0, none⟩ (.int .i64 43) (g10.cell (by simp [go_sem])) (Nat.le_refl _), m10⟩)
  clear m10 g10 X9
  unfold agTwo
  go_wp2_with fail
  refine (a_point (unhide TB) (unhide X10).1 (unhide X10).2).mono ?_
  rintro e w11 ⟨rfl, X11⟩
  replace X11 := hide X11
  clear X10
  go_wp2_with fail
  refine (unhide TW _).mono ?_
  rintro e w12 ⟨fb12, rfl, m12, g12⟩
  have X12 := hide (show _ ∧ _ from ⟨(unhide X11).gr g12, m12⟩)
  clear m12 g12 X11
  unfold agTwo
  go_wp2_with fail
  refine (a_call (unhide X12).1 (by simp) (unhide X12).2 8 _ rfl).mono ?_
  rintro e w13 ⟨rfl, v13, sb2, X13⟩
  replace X13 := hide X13
  clear X12
  go_wp2_with fail
  refine (a_depth (unhide X13) 2 (by simp)).mono ?_
  rintro e w14 ⟨rfl, X14⟩
  replace X14 := hide X14
  clear X13
  go_wp2_with fail
  refine (a_top (unhide X14) (by simp) 8 0 rfl).mono ?_
  rintro e w15 ⟨tb, tc, rfl, X15, _, _, g15⟩
  have X16 := hide ((unhide X14).add (X15.gr (G.alloc w15 (.cells #[.int .i64 0, .int .i64 0, .slice (some ⟨tb, 0, none⟩) 2 tc] 46))) ⟨w15.heap.size, 2, none⟩ (.slice (some ⟨tb, 0, none⟩) 2 tc) (by simp [go_sem]) g15.size)
  clear X14 X15 g15
  unfold agFr
  go_wp2_with fail
  refine (a_jump (L' := [⟨0, 0, sb, 2, [7, 64]⟩, ⟨0, 1, sb2, 2, [8, 0]⟩]) (unhide X16) (by simp) 1 rfl).mono ?_
  rintro e w17 ⟨rfl, X17⟩
  replace X17 := hide X17
  clear X16
  go_wp2_with fail
  refine (a_frames2 (unhide X17) (by simp)).mono ?_
  rintro e w18 ⟨kb, kc, rfl, X18⟩
  replace X18 := hide X18
  clear X17
  go_wp2_with fail
  refine (a_return (L := [⟨0, 0, sb, 2, [7, 64]⟩]) (unhide X18) (by simp) true rfl).mono ?_
  rintro e w19 ⟨rfl, v19, X19⟩
  replace X19 := hide X19
  clear X18
  go_wp2_with fail
  refine (a_return (L := []) (unhide X19) (by simp) false rfl).mono ?_
  rintro e w20 ⟨rfl, v20, X20⟩
  have c1 := (X20.kc _ (List.mem_cons_self)).1
  have c2 := (X20.kc _ (List.mem_cons_of_mem _ (List.mem_cons_self))).1
  have c3 := (X20.kc _ (List.mem_cons_of_mem _ (List.mem_cons_of_mem _ (List.mem_cons_self)))).1
  have c4 := (X20.kc _ (List.mem_cons_of_mem _ (List.mem_cons_of_mem _ (List.mem_cons_of_mem _ (List.mem_cons_self))))).1
  have c5 := (X20.kc _ (List.mem_cons_of_mem _ (List.mem_cons_of_mem _ (List.mem_cons_of_mem _ (List.mem_cons_of_mem _ (List.mem_cons_self)))))).1
  simp only at c1 c2 c3 c4 c5
  replace X20 := hide X20
  clear X19
  go_wp2_with fail
  refine (a_depth (unhide X20) 0 (by simp)).mono ?_
  rintro e w21 ⟨rfl, X21⟩
  have G21 := hide X21.g
  clear X21 X20 c1 c2 c3 c4 c5
  go_wp2_with fail
  go_ret
  exact ⟨rfl, unhide G21⟩
end Go.Proofs.YtnfeommkbocgpaaDoor
