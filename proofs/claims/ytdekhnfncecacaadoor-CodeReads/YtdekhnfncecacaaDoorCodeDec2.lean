/- Decode of package code. -/
import Derived.Test.YtdekhnfncecacaaDoorCodeDec
import Derived.Deep.DeepCutAuto
namespace Go.Proofs.YtdekhnfncecacaaDoor
set_option maxRecDepth 100000
open Go.RowKit Go.Maps Go.ChangeShapes Go.WideShapes Go.ChangeAt Go.Deep

/-- With the reader. -/
abbrev decR (w : World) (b off' n c : Nat) : World := (decW w).alloc (.cells #[.slice (some ⟨b, off', none⟩) (n - 4) (c - 4), .bool false] 91)
theorem decR_size (w : World) (b off' n c : Nat) : (decR w b off' n c).heap.size = w.heap.size + 3 := by rw [World.size_alloc, World.size_alloc, World.size_alloc]
theorem decR_at (w : World) (b off off' n c : Nat) (zs : List Int) (h : Row w (some ⟨b, off, none⟩) n zs) (hnc : n ≤ c) (hn : n ≤ 10000000) (hn4 : 4 ≤ n) (ho : n = 4 ∨ off' = off + 4) : RdS w (decR w b off' n c) (w.heap.size + 2) (some (zs.drop 4)) := by
  refine ⟨some ⟨b, off', none⟩, n - 4, c - 4, ⟨by simp [go_sem], by simp [go_sem], by simp [go_sem], by simp [go_sem]⟩, by omega, by omega, (fun e => by cases e), ?_⟩
  rcases ho with ho | ho
  · exact ⟨by rw [List.length_drop, h.1], fun z hz => h.2.1 z (List.mem_of_mem_drop hz), Or.inl (by omega)⟩
  · rw [ho]; exact h.drop hn4

/-- What is known behind the reading. -/
structure Rdn (w : World) (b off' n c : Nat) (w2 : World) (s' : Option (List Int)) (a : Md) (v : Value) : Prop where
  tt : RdTo w (decR w b off' n c) w2 (w.heap.size + 2) s'
  md : ∀ w'', KeepFrom (w.heap.size + 3) w2 w'' → ModAt w'' v a
theorem Rdn.z {w : World} {b off' n c : Nat} {w2 : World} {s' : Option (List Int)} {a : Md} {v : Value} (h : Rdn w b off' n c w2 s' a v) (i : Nat) (x : Value) (hx : (decR w b off' n c).cell? ⟨w.heap.size, i, none⟩ = some x) : w2.cell? ⟨w.heap.size, i, none⟩ = some x := h.tt.2.cell hx (by omega)
theorem Rdn.f {w : World} {b off' n c : Nat} {w2 : World} {s' : Option (List Int)} {a : Md} {v : Value} (h : Rdn w b off' n c w2 s' a v) (i : Nat) (hx : (decR w b off' n c).frozen? ⟨w.heap.size, i, none⟩ = false) : w2.frozen? ⟨w.heap.size, i, none⟩ = false := h.tt.2.fro (by rw [decR_size]; omega) hx (by omega)
theorem Rdn.g {w : World} {b off' n c : Nat} {w2 : World} {s' : Option (List Int)} {a : Md} {v : Value} (h : Rdn w b off' n c w2 s' a v) : G w w2 :=
  Below.trans ((((G.refl w).more _).more _).more _) (h.tt.2.below (by rw [decR_size]; omega) (by omega))
theorem Rdn.sz {w : World} {b off' n c : Nat} {w2 : World} {s' : Option (List Int)} {a : Md} {v : Value} (h : Rdn w b off' n c w2 s' a v) : w.heap.size + 3 ≤ w2.heap.size := by
  have := h.tt.2.size
  rw [decR_size] at this
  exact this

set_option maxHeartbeats 1000000 in
theorem decode_yes (w : World) (b off n c : Nat) (zs : List Int) (h : Row w (some ⟨b, off, none⟩) n zs) (hnc : n ≤ c) (hn : n ≤ 10000000) (hn4 : 4 ≤ n) (hp : zs.take 4 = fst4) :
    Calls Tryd.prog 9 #[.slice (some ⟨b, off, none⟩) n c] w fun e w' => DecTo w w' zs e := by
  have H := hasprefix (decW w) (some ⟨b, off, none⟩) (some ⟨w.heap.size + 1, 0, none⟩) n c zs (h.later (((G.refl w).more _).more _)) hnc (decW_row w)
  rw [decide_eq_true hp] at H
  have C := hide (cut_yes (decW w) b off _ n c hn4 hnc H)
  have RM := hide (fun off' (ho : n = 4 ∨ off' = off + 4) => (r_module w (decR w b off' n c) (w.heap.size + 2) (some (zs.drop 4)) (by omega) ((((G.refl w).more _).more _).more _) (decR_at w b off off' n c zs h hnc hn hn4 ho)))
  have hcv := Lib.run_convert_bytes_const (P := Tryd.prog) (w.alloc (.cells #[.slice none 0 0, .slice none 0 0, .slice none 0 0, .slice none 0 0, .slice none 0 0, .int .i64 0] 28)) 31 5 #[.int .u8 71, .int .u8 79, .int .u8 76, .int .u8 49] 4 4 Tryd.underlying31 Tryd.underlying5
  rw [World.size_alloc] at hcv
  have HP := hide hp
  clear h hp H
  go_enter Tryd.func9, Tryd.ntmps9
  go_wp2_with fail
  refine (unhide C).mono ?_
  rintro e w1 ⟨⟨off', ho, rfl⟩, rfl⟩
  have C2 := hide (unhide RM off' ho)
  clear C hcv RM ho
  go_wp2_with fail
  refine (unhide C2).mono ?_
  rintro e w2 ⟨a, s', so, sc, go, gc, co, cc, ca, ac, fo, fc, rfl, hin, oa, ra, hto⟩
  rw [decR_size] at hin
  have hR : Rdn w b off' n c w2 s' a (.agg #[.slice so a.sh.length sc, .slice go a.gl.length gc, .slice co a.co.length cc, .slice ca a.ca.length ac, .slice fo a.fn.length fc, .int .i64 a.main]) := ⟨hto, hin⟩
  clear C2 hin hto
  have hsz := hR.sz
  obtain ⟨w3, hw3⟩ : ∃ w3, w3 = w2.alloc (.cells #[.slice so a.sh.length sc, .slice go a.gl.length gc, .slice co a.co.length cc, .slice ca a.ca.length ac, .slice fo a.fn.length fc, .int .i64 a.main] 28) := ⟨_, rfl⟩
  have g3 : G w2 w3 := by rw [hw3]; exact G.alloc _ _
  have z0 := g3.cell (hR.z 0 (.slice none 0 0) (by simp [go_sem]))
  have f0 : w3.frozen? ⟨w.heap.size, 0, none⟩ = false := (World.frozen?_of_block (g3.block w.heap.size (by omega))).trans (hR.f 0 (by simp [go_sem]))
  have x0 : w3.cell? ⟨w2.heap.size, 0, none⟩ = some (.slice so a.sh.length sc) := by rw [hw3]; simp [go_sem]
  have z1 := g3.cell (hR.z 1 (.slice none 0 0) (by simp [go_sem]))
  have f1 : w3.frozen? ⟨w.heap.size, 1, none⟩ = false := (World.frozen?_of_block (g3.block w.heap.size (by omega))).trans (hR.f 1 (by simp [go_sem]))
  have x1 : w3.cell? ⟨w2.heap.size, 1, none⟩ = some (.slice go a.gl.length gc) := by rw [hw3]; simp [go_sem]
  have z2 := g3.cell (hR.z 2 (.slice none 0 0) (by simp [go_sem]))
  have f2 : w3.frozen? ⟨w.heap.size, 2, none⟩ = false := (World.frozen?_of_block (g3.block w.heap.size (by omega))).trans (hR.f 2 (by simp [go_sem]))
  have x2 : w3.cell? ⟨w2.heap.size, 2, none⟩ = some (.slice co a.co.length cc) := by rw [hw3]; simp [go_sem]
  have z3 := g3.cell (hR.z 3 (.slice none 0 0) (by simp [go_sem]))
  have f3 : w3.frozen? ⟨w.heap.size, 3, none⟩ = false := (World.frozen?_of_block (g3.block w.heap.size (by omega))).trans (hR.f 3 (by simp [go_sem]))
  have x3 : w3.cell? ⟨w2.heap.size, 3, none⟩ = some (.slice ca a.ca.length ac) := by rw [hw3]; simp [go_sem]
  have z4 := g3.cell (hR.z 4 (.slice none 0 0) (by simp [go_sem]))
  have f4 : w3.frozen? ⟨w.heap.size, 4, none⟩ = false := (World.frozen?_of_block (g3.block w.heap.size (by omega))).trans (hR.f 4 (by simp [go_sem]))
  have x4 : w3.cell? ⟨w2.heap.size, 4, none⟩ = some (.slice fo a.fn.length fc) := by rw [hw3]; simp [go_sem]
  have z5 := g3.cell (hR.z 5 (.int .i64 0) (by simp [go_sem]))
  have f5 : w3.frozen? ⟨w.heap.size, 5, none⟩ = false := (World.frozen?_of_block (g3.block w.heap.size (by omega))).trans (hR.f 5 (by simp [go_sem]))
  have x5 : w3.cell? ⟨w2.heap.size, 5, none⟩ = some (.int .i64 a.main) := by rw [hw3]; simp [go_sem]
  have hbad := g3.cell hR.tt.1.bad
  obtain ⟨ro, rm, rc, hc0, hrm, hm0, hmz, _⟩ := rl_rest hR.tt.1
  replace hc0 := g3.cell hc0
  change w3.cell? ⟨w.heap.size + 1 + 1, 0, none⟩ = _ at hc0
  change w3.cell? ⟨w.heap.size + 1 + 1, 1, none⟩ = _ at hbad
  have HG := hide (hR.g.trans g3)
  have hne0 : ¬ w.heap.size = w2.heap.size := by omega
  have KN : Hid (decM zs = none → ∀ w', G w w' → DecTo w w' zs (.returned (.tuple #[.agg #[.slice none 0 0, .slice none 0 0, .slice none 0 0, .slice none 0 0, .slice none 0 0, .int .i64 0], .int .i64 3]))) := hide fun hd w' hg => ⟨_, 3, noMd, rfl, noMd_at w', noMd_ok, hg, Or.inr ⟨hd, rfl, rfl⟩⟩
  have KY : Hid (decM zs = some a → ∀ w', G w w' → KeepFrom (w.heap.size + 3) w2 w' → DecTo w w' zs (.returned (.tuple #[.agg #[.slice so a.sh.length sc, .slice go a.gl.length gc, .slice co a.co.length cc, .slice ca a.ca.length ac, .slice fo a.fn.length fc, .int .i64 a.main], .int .i64 0]))) := hide fun hd w' hg hk => ⟨_, 0, a, rfl, hR.md w' hk, oa, hg, Or.inl ⟨hd, rfl⟩⟩
  have RA := hide ra
  clear hR oa ra
  have gN := hide (show G w ((((((w3.setCell ⟨w.heap.size, 0, none⟩ (.slice none 0 0)).setCell ⟨w.heap.size, 1, none⟩ (.slice none 0 0)).setCell ⟨w.heap.size, 2, none⟩ (.slice none 0 0)).setCell ⟨w.heap.size, 3, none⟩ (.slice none 0 0)).setCell ⟨w.heap.size, 4, none⟩ (.slice none 0 0)).setCell ⟨w.heap.size, 5, none⟩ (.int .i64 0)) from ((((((unhide HG).set _ 0 _ (Nat.le_refl _)).set _ 1 _ (Nat.le_refl _)).set _ 2 _ (Nat.le_refl _)).set _ 3 _ (Nat.le_refl _)).set _ 4 _ (Nat.le_refl _)).set _ 5 _ (Nat.le_refl _))
  have gY := hide (show G w ((((((w3.setCell ⟨w.heap.size, 0, none⟩ (.slice so a.sh.length sc)).setCell ⟨w.heap.size, 1, none⟩ (.slice go a.gl.length gc)).setCell ⟨w.heap.size, 2, none⟩ (.slice co a.co.length cc)).setCell ⟨w.heap.size, 3, none⟩ (.slice ca a.ca.length ac)).setCell ⟨w.heap.size, 4, none⟩ (.slice fo a.fn.length fc)).setCell ⟨w.heap.size, 5, none⟩ (.int .i64 a.main)) from ((((((unhide HG).set _ 0 _ (Nat.le_refl _)).set _ 1 _ (Nat.le_refl _)).set _ 2 _ (Nat.le_refl _)).set _ 3 _ (Nat.le_refl _)).set _ 4 _ (Nat.le_refl _)).set _ 5 _ (Nat.le_refl _))
  have kY := hide (show KeepFrom (w.heap.size + 3) w2 ((((((w3.setCell ⟨w.heap.size, 0, none⟩ (.slice so a.sh.length sc)).setCell ⟨w.heap.size, 1, none⟩ (.slice go a.gl.length gc)).setCell ⟨w.heap.size, 2, none⟩ (.slice co a.co.length cc)).setCell ⟨w.heap.size, 3, none⟩ (.slice ca a.ca.length ac)).setCell ⟨w.heap.size, 4, none⟩ (.slice fo a.fn.length fc)).setCell ⟨w.heap.size, 5, none⟩ (.int .i64 a.main)) from KeepFrom.trans (KeepFrom.of_G g3) (KeepFrom.put (KeepFrom.put (KeepFrom.put (KeepFrom.put (KeepFrom.put (KeepFrom.put (KeepFrom.refl _ _) w.heap.size 0 (.slice so a.sh.length sc) (by omega)) w.heap.size 1 (.slice go a.gl.length gc) (by omega)) w.heap.size 2 (.slice co a.co.length cc) (by omega)) w.heap.size 3 (.slice ca a.ca.length ac) (by omega)) w.heap.size 4 (.slice fo a.fn.length fc) (by omega)) w.heap.size 5 (.int .i64 a.main) (by omega)))
  clear g3
  go_upto_region 6 with fail
  rw [← hw3]
  clear hw3
  cases s' with
  | none =>
    have hd : decM zs = none := by unfold decM; rw [if_pos (unhide HP), unhide RA _ rfl]
    have hbad : w3.cell? ⟨w.heap.size + 1 + 1, 1, none⟩ = some (.bool true) := hbad
    have F := hide (unhide KN hd _ (unhide gN))
    clear KN KY gN gY kY RA HP HG hm0 hmz
    have q0 : ((((((w3.setCell ⟨w.heap.size, 0, none⟩ (.slice none 0 0)).setCell ⟨w.heap.size, 1, none⟩ (.slice none 0 0)).setCell ⟨w.heap.size, 2, none⟩ (.slice none 0 0)).setCell ⟨w.heap.size, 3, none⟩ (.slice none 0 0)).setCell ⟨w.heap.size, 4, none⟩ (.slice none 0 0)).setCell ⟨w.heap.size, 5, none⟩ (.int .i64 0)).cell? ⟨w.heap.size, 0, none⟩ = some (.slice none 0 0) := by
      rw [cell_other _ (Or.inr (by omega)), cell_other _ (Or.inr (by omega)), cell_other _ (Or.inr (by omega)), cell_other _ (Or.inr (by omega)), cell_other _ (Or.inr (by omega))]
      exact cell_same _ (by exact z0)
    have q1 : ((((((w3.setCell ⟨w.heap.size, 0, none⟩ (.slice none 0 0)).setCell ⟨w.heap.size, 1, none⟩ (.slice none 0 0)).setCell ⟨w.heap.size, 2, none⟩ (.slice none 0 0)).setCell ⟨w.heap.size, 3, none⟩ (.slice none 0 0)).setCell ⟨w.heap.size, 4, none⟩ (.slice none 0 0)).setCell ⟨w.heap.size, 5, none⟩ (.int .i64 0)).cell? ⟨w.heap.size, 1, none⟩ = some (.slice none 0 0) := by
      rw [cell_other _ (Or.inr (by omega)), cell_other _ (Or.inr (by omega)), cell_other _ (Or.inr (by omega)), cell_other _ (Or.inr (by omega))]
      exact cell_same _ (by rw [cell_other _ (Or.inr (by omega))]; exact z1)
    have q2 : ((((((w3.setCell ⟨w.heap.size, 0, none⟩ (.slice none 0 0)).setCell ⟨w.heap.size, 1, none⟩ (.slice none 0 0)).setCell ⟨w.heap.size, 2, none⟩ (.slice none 0 0)).setCell ⟨w.heap.size, 3, none⟩ (.slice none 0 0)).setCell ⟨w.heap.size, 4, none⟩ (.slice none 0 0)).setCell ⟨w.heap.size, 5, none⟩ (.int .i64 0)).cell? ⟨w.heap.size, 2, none⟩ = some (.slice none 0 0) := by
      rw [cell_other _ (Or.inr (by omega)), cell_other _ (Or.inr (by omega)), cell_other _ (Or.inr (by omega))]
      exact cell_same _ (by rw [cell_other _ (Or.inr (by omega)), cell_other _ (Or.inr (by omega))]; exact z2)
    have q3 : ((((((w3.setCell ⟨w.heap.size, 0, none⟩ (.slice none 0 0)).setCell ⟨w.heap.size, 1, none⟩ (.slice none 0 0)).setCell ⟨w.heap.size, 2, none⟩ (.slice none 0 0)).setCell ⟨w.heap.size, 3, none⟩ (.slice none 0 0)).setCell ⟨w.heap.size, 4, none⟩ (.slice none 0 0)).setCell ⟨w.heap.size, 5, none⟩ (.int .i64 0)).cell? ⟨w.heap.size, 3, none⟩ = some (.slice none 0 0) := by
      rw [cell_other _ (Or.inr (by omega)), cell_other _ (Or.inr (by omega))]
      exact cell_same _ (by rw [cell_other _ (Or.inr (by omega)), cell_other _ (Or.inr (by omega)), cell_other _ (Or.inr (by omega))]; exact z3)
    have q4 : ((((((w3.setCell ⟨w.heap.size, 0, none⟩ (.slice none 0 0)).setCell ⟨w.heap.size, 1, none⟩ (.slice none 0 0)).setCell ⟨w.heap.size, 2, none⟩ (.slice none 0 0)).setCell ⟨w.heap.size, 3, none⟩ (.slice none 0 0)).setCell ⟨w.heap.size, 4, none⟩ (.slice none 0 0)).setCell ⟨w.heap.size, 5, none⟩ (.int .i64 0)).cell? ⟨w.heap.size, 4, none⟩ = some (.slice none 0 0) := by
      rw [cell_other _ (Or.inr (by omega))]
      exact cell_same _ (by rw [cell_other _ (Or.inr (by omega)), cell_other _ (Or.inr (by omega)), cell_other _ (Or.inr (by omega)), cell_other _ (Or.inr (by omega))]; exact z4)
    have q5 : ((((((w3.setCell ⟨w.heap.size, 0, none⟩ (.slice none 0 0)).setCell ⟨w.heap.size, 1, none⟩ (.slice none 0 0)).setCell ⟨w.heap.size, 2, none⟩ (.slice none 0 0)).setCell ⟨w.heap.size, 3, none⟩ (.slice none 0 0)).setCell ⟨w.heap.size, 4, none⟩ (.slice none 0 0)).setCell ⟨w.heap.size, 5, none⟩ (.int .i64 0)).cell? ⟨w.heap.size, 5, none⟩ = some (.int .i64 0) := by
      exact cell_same _ (by rw [cell_other _ (Or.inr (by omega)), cell_other _ (Or.inr (by omega)), cell_other _ (Or.inr (by omega)), cell_other _ (Or.inr (by omega)), cell_other _ (Or.inr (by omega))]; exact z5)
    go_wp2_with fail
    refine bodyPost_ret (by simp [results, Tryd.results9, go_sem, q0, q1, q2, q3, q4, q5]; try rfl) rfl ?_
    exact unhide F
  | some r =>
    have hbad : w3.cell? ⟨w.heap.size + 1 + 1, 1, none⟩ = some (.bool false) := hbad
    have hrl := (hmz r rfl).1
    by_cases hr0 : r = []
    · have hd : decM zs = some a := by
        obtain ⟨z0, e0, h1⟩ := unhide RA
        obtain rfl := Option.some.inj e0
        unfold decM; rw [if_pos (unhide HP), h1, hr0]
      obtain rfl : rm = 0 := by rw [← hrl, hr0]; rfl
      have F := hide (unhide KY hd _ (unhide gY) (unhide kY))
      clear KN KY gN gY kY RA HP HG hm0 hmz hr0 hrl
      have q0 : ((((((w3.setCell ⟨w.heap.size, 0, none⟩ (.slice so a.sh.length sc)).setCell ⟨w.heap.size, 1, none⟩ (.slice go a.gl.length gc)).setCell ⟨w.heap.size, 2, none⟩ (.slice co a.co.length cc)).setCell ⟨w.heap.size, 3, none⟩ (.slice ca a.ca.length ac)).setCell ⟨w.heap.size, 4, none⟩ (.slice fo a.fn.length fc)).setCell ⟨w.heap.size, 5, none⟩ (.int .i64 a.main)).cell? ⟨w.heap.size, 0, none⟩ = some (.slice so a.sh.length sc) := by
        rw [cell_other _ (Or.inr (by omega)), cell_other _ (Or.inr (by omega)), cell_other _ (Or.inr (by omega)), cell_other _ (Or.inr (by omega)), cell_other _ (Or.inr (by omega))]
        exact cell_same _ (by exact z0)
      have q1 : ((((((w3.setCell ⟨w.heap.size, 0, none⟩ (.slice so a.sh.length sc)).setCell ⟨w.heap.size, 1, none⟩ (.slice go a.gl.length gc)).setCell ⟨w.heap.size, 2, none⟩ (.slice co a.co.length cc)).setCell ⟨w.heap.size, 3, none⟩ (.slice ca a.ca.length ac)).setCell ⟨w.heap.size, 4, none⟩ (.slice fo a.fn.length fc)).setCell ⟨w.heap.size, 5, none⟩ (.int .i64 a.main)).cell? ⟨w.heap.size, 1, none⟩ = some (.slice go a.gl.length gc) := by
        rw [cell_other _ (Or.inr (by omega)), cell_other _ (Or.inr (by omega)), cell_other _ (Or.inr (by omega)), cell_other _ (Or.inr (by omega))]
        exact cell_same _ (by rw [cell_other _ (Or.inr (by omega))]; exact z1)
      have q2 : ((((((w3.setCell ⟨w.heap.size, 0, none⟩ (.slice so a.sh.length sc)).setCell ⟨w.heap.size, 1, none⟩ (.slice go a.gl.length gc)).setCell ⟨w.heap.size, 2, none⟩ (.slice co a.co.length cc)).setCell ⟨w.heap.size, 3, none⟩ (.slice ca a.ca.length ac)).setCell ⟨w.heap.size, 4, none⟩ (.slice fo a.fn.length fc)).setCell ⟨w.heap.size, 5, none⟩ (.int .i64 a.main)).cell? ⟨w.heap.size, 2, none⟩ = some (.slice co a.co.length cc) := by
        rw [cell_other _ (Or.inr (by omega)), cell_other _ (Or.inr (by omega)), cell_other _ (Or.inr (by omega))]
        exact cell_same _ (by rw [cell_other _ (Or.inr (by omega)), cell_other _ (Or.inr (by omega))]; exact z2)
      have q3 : ((((((w3.setCell ⟨w.heap.size, 0, none⟩ (.slice so a.sh.length sc)).setCell ⟨w.heap.size, 1, none⟩ (.slice go a.gl.length gc)).setCell ⟨w.heap.size, 2, none⟩ (.slice co a.co.length cc)).setCell ⟨w.heap.size, 3, none⟩ (.slice ca a.ca.length ac)).setCell ⟨w.heap.size, 4, none⟩ (.slice fo a.fn.length fc)).setCell ⟨w.heap.size, 5, none⟩ (.int .i64 a.main)).cell? ⟨w.heap.size, 3, none⟩ = some (.slice ca a.ca.length ac) := by
        rw [cell_other _ (Or.inr (by omega)), cell_other _ (Or.inr (by omega))]
        exact cell_same _ (by rw [cell_other _ (Or.inr (by omega)), cell_other _ (Or.inr (by omega)), cell_other _ (Or.inr (by omega))]; exact z3)
      have q4 : ((((((w3.setCell ⟨w.heap.size, 0, none⟩ (.slice so a.sh.length sc)).setCell ⟨w.heap.size, 1, none⟩ (.slice go a.gl.length gc)).setCell ⟨w.heap.size, 2, none⟩ (.slice co a.co.length cc)).setCell ⟨w.heap.size, 3, none⟩ (.slice ca a.ca.length ac)).setCell ⟨w.heap.size, 4, none⟩ (.slice fo a.fn.length fc)).setCell ⟨w.heap.size, 5, none⟩ (.int .i64 a.main)).cell? ⟨w.heap.size, 4, none⟩ = some (.slice fo a.fn.length fc) := by
        rw [cell_other _ (Or.inr (by omega))]
        exact cell_same _ (by rw [cell_other _ (Or.inr (by omega)), cell_other _ (Or.inr (by omega)), cell_other _ (Or.inr (by omega)), cell_other _ (Or.inr (by omega))]; exact z4)
      have q5 : ((((((w3.setCell ⟨w.heap.size, 0, none⟩ (.slice so a.sh.length sc)).setCell ⟨w.heap.size, 1, none⟩ (.slice go a.gl.length gc)).setCell ⟨w.heap.size, 2, none⟩ (.slice co a.co.length cc)).setCell ⟨w.heap.size, 3, none⟩ (.slice ca a.ca.length ac)).setCell ⟨w.heap.size, 4, none⟩ (.slice fo a.fn.length fc)).setCell ⟨w.heap.size, 5, none⟩ (.int .i64 a.main)).cell? ⟨w.heap.size, 5, none⟩ = some (.int .i64 a.main) := by
        exact cell_same _ (by rw [cell_other _ (Or.inr (by omega)), cell_other _ (Or.inr (by omega)), cell_other _ (Or.inr (by omega)), cell_other _ (Or.inr (by omega)), cell_other _ (Or.inr (by omega))]; exact z5)
      go_wp2_with fail
      refine bodyPost_ret (by simp [results, Tryd.results9, go_sem, q0, q1, q2, q3, q4, q5]; try rfl) rfl ?_
      exact unhide F
    · have hd : decM zs = none := by
        obtain ⟨z0, e0, h1⟩ := unhide RA
        obtain rfl := Option.some.inj e0
        unfold decM; rw [if_pos (unhide HP), h1]
        cases r with
        | nil => exact absurd rfl hr0
        | cons x y => rfl
      have hpos : 0 < rm := by
        rw [← hrl]
        exact List.length_pos_iff.2 hr0
      have F := hide (unhide KN hd _ (unhide gN))
      clear KN KY gN gY kY RA HP HG hm0 hmz hr0 hrl
      have q0 : ((((((w3.setCell ⟨w.heap.size, 0, none⟩ (.slice none 0 0)).setCell ⟨w.heap.size, 1, none⟩ (.slice none 0 0)).setCell ⟨w.heap.size, 2, none⟩ (.slice none 0 0)).setCell ⟨w.heap.size, 3, none⟩ (.slice none 0 0)).setCell ⟨w.heap.size, 4, none⟩ (.slice none 0 0)).setCell ⟨w.heap.size, 5, none⟩ (.int .i64 0)).cell? ⟨w.heap.size, 0, none⟩ = some (.slice none 0 0) := by
        rw [cell_other _ (Or.inr (by omega)), cell_other _ (Or.inr (by omega)), cell_other _ (Or.inr (by omega)), cell_other _ (Or.inr (by omega)), cell_other _ (Or.inr (by omega))]
        exact cell_same _ (by exact z0)
      have q1 : ((((((w3.setCell ⟨w.heap.size, 0, none⟩ (.slice none 0 0)).setCell ⟨w.heap.size, 1, none⟩ (.slice none 0 0)).setCell ⟨w.heap.size, 2, none⟩ (.slice none 0 0)).setCell ⟨w.heap.size, 3, none⟩ (.slice none 0 0)).setCell ⟨w.heap.size, 4, none⟩ (.slice none 0 0)).setCell ⟨w.heap.size, 5, none⟩ (.int .i64 0)).cell? ⟨w.heap.size, 1, none⟩ = some (.slice none 0 0) := by
        rw [cell_other _ (Or.inr (by omega)), cell_other _ (Or.inr (by omega)), cell_other _ (Or.inr (by omega)), cell_other _ (Or.inr (by omega))]
        exact cell_same _ (by rw [cell_other _ (Or.inr (by omega))]; exact z1)
      have q2 : ((((((w3.setCell ⟨w.heap.size, 0, none⟩ (.slice none 0 0)).setCell ⟨w.heap.size, 1, none⟩ (.slice none 0 0)).setCell ⟨w.heap.size, 2, none⟩ (.slice none 0 0)).setCell ⟨w.heap.size, 3, none⟩ (.slice none 0 0)).setCell ⟨w.heap.size, 4, none⟩ (.slice none 0 0)).setCell ⟨w.heap.size, 5, none⟩ (.int .i64 0)).cell? ⟨w.heap.size, 2, none⟩ = some (.slice none 0 0) := by
        rw [cell_other _ (Or.inr (by omega)), cell_other _ (Or.inr (by omega)), cell_other _ (Or.inr (by omega))]
        exact cell_same _ (by rw [cell_other _ (Or.inr (by omega)), cell_other _ (Or.inr (by omega))]; exact z2)
      have q3 : ((((((w3.setCell ⟨w.heap.size, 0, none⟩ (.slice none 0 0)).setCell ⟨w.heap.size, 1, none⟩ (.slice none 0 0)).setCell ⟨w.heap.size, 2, none⟩ (.slice none 0 0)).setCell ⟨w.heap.size, 3, none⟩ (.slice none 0 0)).setCell ⟨w.heap.size, 4, none⟩ (.slice none 0 0)).setCell ⟨w.heap.size, 5, none⟩ (.int .i64 0)).cell? ⟨w.heap.size, 3, none⟩ = some (.slice none 0 0) := by
        rw [cell_other _ (Or.inr (by omega)), cell_other _ (Or.inr (by omega))]
        exact cell_same _ (by rw [cell_other _ (Or.inr (by omega)), cell_other _ (Or.inr (by omega)), cell_other _ (Or.inr (by omega))]; exact z3)
      have q4 : ((((((w3.setCell ⟨w.heap.size, 0, none⟩ (.slice none 0 0)).setCell ⟨w.heap.size, 1, none⟩ (.slice none 0 0)).setCell ⟨w.heap.size, 2, none⟩ (.slice none 0 0)).setCell ⟨w.heap.size, 3, none⟩ (.slice none 0 0)).setCell ⟨w.heap.size, 4, none⟩ (.slice none 0 0)).setCell ⟨w.heap.size, 5, none⟩ (.int .i64 0)).cell? ⟨w.heap.size, 4, none⟩ = some (.slice none 0 0) := by
        rw [cell_other _ (Or.inr (by omega))]
        exact cell_same _ (by rw [cell_other _ (Or.inr (by omega)), cell_other _ (Or.inr (by omega)), cell_other _ (Or.inr (by omega)), cell_other _ (Or.inr (by omega))]; exact z4)
      have q5 : ((((((w3.setCell ⟨w.heap.size, 0, none⟩ (.slice none 0 0)).setCell ⟨w.heap.size, 1, none⟩ (.slice none 0 0)).setCell ⟨w.heap.size, 2, none⟩ (.slice none 0 0)).setCell ⟨w.heap.size, 3, none⟩ (.slice none 0 0)).setCell ⟨w.heap.size, 4, none⟩ (.slice none 0 0)).setCell ⟨w.heap.size, 5, none⟩ (.int .i64 0)).cell? ⟨w.heap.size, 5, none⟩ = some (.int .i64 0) := by
        exact cell_same _ (by rw [cell_other _ (Or.inr (by omega)), cell_other _ (Or.inr (by omega)), cell_other _ (Or.inr (by omega)), cell_other _ (Or.inr (by omega)), cell_other _ (Or.inr (by omega))]; exact z5)
      go_wp2_with fail
      refine bodyPost_ret (by simp [results, Tryd.results9, go_sem, q0, q1, q2, q3, q4, q5]; try rfl) rfl ?_
      exact unhide F

theorem decode_any (w : World) (ao : Option Addr) (n c : Nat) (zs : List Int) (h : Row w ao n zs) (hnc : n ≤ c) (hn : n ≤ 10000000) :
    Calls Tryd.prog 9 #[.slice ao n c] w fun e w' => DecTo w w' zs e := by
  by_cases hp : zs.take 4 = fst4
  · have h4 : 4 ≤ n := by
      have := congrArg List.length hp
      rw [List.length_take, h.1] at this
      simp [fst4] at this
      omega
    rcases h.2.2 with h0 | ⟨b, off, rfl, _⟩
    · omega
    · exact decode_yes w b off n c zs h hnc hn h4 hp
  · exact decode_no w ao n c zs h hnc hp
end Go.Proofs.YtdekhnfncecacaaDoor
