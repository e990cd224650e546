/- A reader of package code in memory; its fail, number, signed, integer, truth. -/
import Derived.Test.YtdekhnfncecacaaDoorCodeEnc
namespace Go.Proofs.YtdekhnfncecacaaDoor
set_option maxRecDepth 100000
open Go.RowKit Go.Maps Go.ChangeShapes Go.WideShapes Go.ChangeAt Go.Deep

/-- What is read from s on, plain: a, and what is left; none: it has failed, now or before. -/
def Res {α : Type} (p : Prs α) (s : Option (List Int)) (a : α) (s' : Option (List Int)) : Prop := match s' with
  | none => ∀ zs, s = some zs → p zs = none
  | some r => ∃ zs, s = some zs ∧ p zs = some (a, r)
theorem Res.seq {α β : Type} {p : Prs α} {q : Prs β} {s s1 s2 : Option (List Int)} {a : α} {b : β} (h : Res p s a s1) (k : Res q s1 b s2) : Res (pSeq p q) s (a, b) s2 := by
  cases s2 with
  | some r =>
    obtain ⟨z1, e1, k1⟩ := k
    subst e1
    obtain ⟨zs, e, h1⟩ := h
    exact ⟨zs, e, by unfold pSeq; rw [h1]; simp only; rw [k1]⟩
  | none =>
    intro zs e
    unfold pSeq
    cases s1 with
    | none => rw [h zs e]
    | some r =>
      obtain ⟨z0, e0, h1⟩ := h
      rw [e] at e0
      obtain rfl := Option.some.inj e0
      rw [h1]
      simp only
      rw [k r rfl]
theorem Res.map {α β : Type} {p : Prs α} {s s1 : Option (List Int)} {a : α} (f : α → β) (h : Res p s a s1) : Res (pMap f p) s (f a) s1 := by
  cases s1 with
  | some r =>
    obtain ⟨zs, e, h1⟩ := h
    exact ⟨zs, e, by unfold pMap; rw [h1]⟩
  | none =>
    intro zs e
    unfold pMap
    rw [h zs e]
theorem Res.same {α : Type} {p : Prs α} {a : α} : Res p none a none := fun _ e => by cases e
theorem pN_add {α : Type} (p : Prs α) : ∀ (k : Nat) (zs : List Int), pN p (k + 1) zs = match pN p k zs with
    | none => none
    | some (l, r) => match p r with
      | none => none
      | some (a, t) => some (l ++ [a], t)
  | 0, zs => by
    simp only [pN]
    cases p zs <;> rfl
  | k + 1, zs => by
    rw [pN]
    rw [show pN p (k + 1) zs = match p zs with
      | none => none
      | some (a, r) => match pN p k r with
        | none => none
        | some (l, s) => some (a :: l, s) from rfl]
    cases p zs with
    | none => rfl
    | some x =>
      simp only
      rw [pN_add p k x.2]
      cases pN p k x.2 with
      | none => rfl
      | some y =>
        simp only
        cases p y.2 <;> rfl
theorem pN_dead {α : Type} (p : Prs α) (zs : List Int) (k : Nat) (h : pN p k zs = none) : ∀ n, k ≤ n → pN p n zs = none := by
  intro n hn
  induction n with
  | zero => obtain rfl : k = 0 := by omega
            exact h
  | succ n ih =>
    by_cases e : k = n + 1
    · rw [← e]; exact h
    · rw [pN_add, ih (by omega)]
theorem Res.zero {α : Type} {p : Prs α} (s : Option (List Int)) : Res (pN p 0) s [] s := by
  cases s with
  | none => exact Res.same
  | some zs => exact ⟨zs, rfl, rfl⟩
theorem Res.step {α : Type} {p : Prs α} {k : Nat} {s s1 s2 : Option (List Int)} {l : List α} {a : α} (h : Res (pN p k) s l s1) (g : Res p s1 a s2) : Res (pN p (k + 1)) s (l ++ [a]) s2 := by
  cases s2 with
  | some r =>
    obtain ⟨z1, e1, k1⟩ := g
    subst e1
    obtain ⟨zs, e, h1⟩ := h
    exact ⟨zs, e, by rw [pN_add, h1]; simp only; rw [k1]⟩
  | none =>
    intro zs e
    rw [pN_add]
    cases s1 with
    | none => rw [h zs e]
    | some r =>
      obtain ⟨z0, e0, h1⟩ := h
      rw [e] at e0
      obtain rfl := Option.some.inj e0
      rw [h1]
      simp only
      rw [g r rfl]
theorem Res.list {α : Type} {p : Prs α} {n : Nat} {s s1 s2 : Option (List Int)} {l : List α} (h : Res pU s n s1) (g : Res (pN p n) s1 l s2) : Res (pL p) s l s2 := by
  cases s2 with
  | some r =>
    obtain ⟨z1, e1, k1⟩ := g
    subst e1
    obtain ⟨zs, e, h1⟩ := h
    exact ⟨zs, e, by unfold pL; rw [h1]; exact k1⟩
  | none =>
    intro zs e
    unfold pL
    cases s1 with
    | none => rw [h zs e]
    | some r =>
      obtain ⟨z0, e0, h1⟩ := h
      rw [e] at e0
      obtain rfl := Option.some.inj e0
      rw [h1]
      exact g r rfl
theorem Res.dead {α : Type} {p : Prs α} {k n : Nat} {s s1 : Option (List Int)} {l : List α} {u : List α} (h : Res pU s n s1) (g : Res (pN p k) s1 l none) (hk : k ≤ n) : Res (pL p) s u none :=
  Res.list (l := u) h (fun zs e => pN_dead p zs k (g zs e) n hk)

/-- The reader's two cells. -/
structure RdC (w : World) (rb : Nat) (v : Value) (bad : Bool) : Prop where
  c0 : w.cell? ⟨rb, 0, none⟩ = some v
  c1 : w.cell? ⟨rb, 1, none⟩ = some (.bool bad)
  f0 : w.frozen? ⟨rb, 0, none⟩ = false
  f1 : w.frozen? ⟨rb, 1, none⟩ = false
theorem RdC.lt {w : World} {rb : Nat} {v : Value} {bad : Bool} (h : RdC w rb v bad) : rb < w.heap.size := World.block_lt_of_cell? w _ h.c0
theorem RdC.kept {w w' : World} {rb : Nat} {v : Value} {bad : Bool} (h : RdC w rb v bad) (e : w'.heap[rb]? = w.heap[rb]?) : RdC w' rb v bad :=
  ⟨(World.cell?_of_block e).trans h.c0, (World.cell?_of_block e).trans h.c1, (World.frozen?_of_block e).trans h.f0, (World.frozen?_of_block e).trans h.f1⟩
theorem RdC.set0 {w : World} {rb : Nat} {v : Value} {bad : Bool} (h : RdC w rb v bad) (u : Value) : RdC (w.setCell ⟨rb, 0, none⟩ u) rb u bad :=
  ⟨cell_same _ h.c0, by rw [cell_other _ (Or.inr (by omega))]; exact h.c1, by rw [World.frozen?_setCell]; exact h.f0, by rw [World.frozen?_setCell]; exact h.f1⟩
theorem RdC.set1 {w : World} {rb : Nat} {v : Value} {bad : Bool} (h : RdC w rb v bad) (u : Bool) : RdC (w.setCell ⟨rb, 1, none⟩ (.bool u)) rb v u :=
  ⟨by rw [cell_other _ (Or.inr (by omega))]; exact h.c0, cell_same _ h.c1, by rw [World.frozen?_setCell]; exact h.f0, by rw [World.frozen?_setCell]; exact h.f1⟩
/-- What the reader at rb has still to read: bytes of w0; none: it has failed. -/
def RdS (w0 w : World) (rb : Nat) : Option (List Int) → Prop
  | none => RdC w rb (.slice none 0 0) true
  | some zs => ∃ ao n c, RdC w rb (.slice ao n c) false ∧ n ≤ c ∧ n ≤ 10000000 ∧ (ao = none → c = 0) ∧ Row w0 ao n zs
/-- w' is w but for the reader's block and new ones. -/
structure Tr (w w' : World) (rb : Nat) : Prop where
  os : w'.os = w.os
  tape : w'.tape = w.tape
  output : w'.output = w.output
  size : w.heap.size ≤ w'.heap.size
  block : ∀ k, k < w.heap.size → k ≠ rb → w'.heap[k]? = w.heap[k]?
theorem Tr.trans {w w1 w2 : World} {rb : Nat} (h : Tr w w1 rb) (k : Tr w1 w2 rb) : Tr w w2 rb :=
  ⟨k.os.trans h.os, k.tape.trans h.tape, k.output.trans h.output, Nat.le_trans h.size k.size, fun b h1 h2 => (k.block b (Nat.lt_of_lt_of_le h1 h.size) h2).trans (h.block b h1 h2)⟩
theorem Tr.of_G {w w' : World} (rb : Nat) (h : G w w') : Tr w w' rb := ⟨h.os, h.tape, h.output, h.size, fun k hk _ => h.block k hk⟩
theorem Tr.refl (w : World) (rb : Nat) : Tr w w rb := Tr.of_G rb (G.refl w)
theorem Tr.set (w : World) (rb i : Nat) (v : Value) : Tr w (w.setCell ⟨rb, i, none⟩ v) rb := ⟨rfl, rfl, rfl, by rw [World.size_setCell]; exact Nat.le_refl _, fun k _ h => heap_set _ _ h⟩
theorem Tr.below {w w' : World} {B rb : Nat} (h : Tr w w' rb) (hB : B ≤ w.heap.size) (h1 : B ≤ rb) : Below B w w' :=
  ⟨h.os, h.tape, h.output, h.size, fun k hk => h.block k (by omega) (by omega)⟩
theorem RdS.lt {w0 w : World} {rb : Nat} {s : Option (List Int)} (h : RdS w0 w rb s) : rb < w.heap.size := by
  cases s with
  | none => exact RdC.lt h
  | some zs => obtain ⟨ao, n, c, h, _⟩ := h; exact h.lt
theorem RdS.kept {w0 w w' : World} {rb : Nat} {s : Option (List Int)} (h : RdS w0 w rb s) (e : w'.heap[rb]? = w.heap[rb]?) : RdS w0 w' rb s := by
  cases s with
  | none => exact RdC.kept h e
  | some zs => obtain ⟨ao, n, c, h, r⟩ := h; exact ⟨ao, n, c, h.kept e, r⟩
theorem RdS.g {w0 w w' : World} {rb : Nat} {s : Option (List Int)} (h : RdS w0 w rb s) (g : G w w') : RdS w0 w' rb s := h.kept (g.block rb h.lt)
/-- What a reader's call leaves. -/
def RdTo (w0 w w' : World) (rb : Nat) (s' : Option (List Int)) : Prop := RdS w0 w' rb s' ∧ Tr w w' rb

set_option maxHeartbeats 400000 in
theorem r_fail (w : World) (rb : Nat) (v : Value) (bad : Bool) (h : RdC w rb v bad) :
    Calls Tryd.prog 77 #[.pointer (some ⟨rb, 0, none⟩)] w fun e w' => e = .returned (.tuple #[]) ∧ RdC w' rb (.slice none 0 0) true ∧ Tr w w' rb := by
  obtain ⟨c0, c1, f0, f1⟩ := h
  have F := hide (show RdC ((w.setCell ⟨rb, 0, none⟩ (.slice none 0 0)).setCell ⟨rb, 1, none⟩ (.bool true)) rb (.slice none 0 0) true ∧ Tr w ((w.setCell ⟨rb, 0, none⟩ (.slice none 0 0)).setCell ⟨rb, 1, none⟩ (.bool true)) rb from
    ⟨((RdC.mk c0 c1 f0 f1).set0 _).set1 true, (Tr.set w rb 0 _).trans (Tr.set _ rb 1 _)⟩)
  go_enter Tryd.func77, Tryd.ntmps77
  go_wp2_with fail
  go_end0
  exact ⟨rfl, unhide F⟩

/-- The part of a row from k on. -/
theorem Row.drop {w : World} {b off n k : Nat} {zs : List Int} (h : Row w (some ⟨b, off, none⟩) n zs) (hk : k ≤ n) : Row w (some ⟨b, off + k, none⟩) (n - k) (zs.drop k) := by
  refine ⟨by rw [List.length_drop, h.1], fun z hz => h.2.1 z (List.mem_of_mem_drop hz), ?_⟩
  rcases h.2.2 with h0 | ⟨b', off', e, hc⟩
  · exact Or.inl (by omega)
  · simp only [Option.some.injEq, Addr.mk.injEq] at e
    obtain ⟨rfl, rfl, _⟩ := e
    refine Or.inr ⟨b, off + k, rfl, fun i hi => ?_⟩
    have := hc (k + i) (by omega)
    rw [Nat.add_assoc, this]
    simp [List.getD, List.getElem?_drop]
theorem takeF_le : ∀ (zs : List Int) (k u : Nat), (takeF zs k u).2 ≤ k + zs.length
  | [], k, u => by simp [takeF]
  | c :: r, k, u => by
    have := takeF_le r (k + 1) (orAt u k c)
    rw [takeF]
    split
    · simp
    · split
      · simp; omega
      · split <;> simp
theorem takeF_lt : ∀ (zs : List Int) (k u : Nat), u < 18446744073709551616 → (takeF zs k u).1 < 18446744073709551616
  | [], k, u, _ => by simp [takeF]
  | c :: r, k, u, hu => by
    have := takeF_lt r (k + 1) (orAt u k c) (orAt_lt u k c hu)
    rw [takeF]
    split
    · simp
    · split
      · exact this
      · split
        · simp
        · exact orAt_lt u k c hu

set_option maxHeartbeats 1000000 in
/-- number, where there is none. -/
theorem rn_none (w : World) (rb : Nat) (ao : Option Addr) (n c : Nat) (bad : Bool) (h : RdC w rb (.slice ao n c) bad) (u : Nat) (T : Calls Tryd.prog 83 #[.slice ao n c] w fun e w' => e = .returned (.tuple #[.int .u64 (u : Int), .int .i64 0]) ∧ w' = w) :
    Calls Tryd.prog 76 #[.pointer (some ⟨rb, 0, none⟩)] w fun e w' => e = .returned (.int .u64 0) ∧ RdC w' rb (.slice none 0 0) true ∧ Tr w w' rb := by
  have Fa := hide (r_fail w rb _ _ h)
  have HT := hide T
  obtain ⟨c0, c1, f0, f1⟩ := h
  clear T
  go_enter Tryd.func76, Tryd.ntmps76
  go_wp2_with fail
  refine (unhide HT).mono ?_
  rintro e w1 ⟨rfl, rfl⟩
  go_wp2_with fail
  refine (unhide Fa).mono ?_
  rintro e w2 ⟨rfl, F⟩
  replace F := hide F
  clear Fa HT c0 c1 f0 f1
  go_wp2_with fail
  go_ret
  exact ⟨rfl, unhide F⟩

/-- What number leaves, where there is one of k bytes. -/
def RnTo (w w' : World) (rb b off n c k : Nat) : Prop := ∃ off', (n = k ∨ off' = off + k) ∧ RdC w' rb (.slice (some ⟨b, off', none⟩) (n - k) (c - k)) false ∧ Tr w w' rb
set_option maxHeartbeats 1000000 in
/-- number, where there is one. -/
theorem rn_some (w : World) (rb b off n c u k : Nat) (h : RdC w rb (.slice (some ⟨b, off, none⟩) n c) false) (hk : 0 < k) (hkn : k ≤ n) (hnc : n ≤ c) (T : Calls Tryd.prog 83 #[.slice (some ⟨b, off, none⟩) n c] w fun e w' => e = .returned (.tuple #[.int .u64 (u : Int), .int .i64 (k : Int)]) ∧ w' = w) :
    Calls Tryd.prog 76 #[.pointer (some ⟨rb, 0, none⟩)] w fun e w' => e = .returned (.int .u64 (u : Int)) ∧ RnTo w w' rb b off n c k := by
  have HT := hide T
  have F := hide (fun off' (ho : n = k ∨ off' = off + k) => show RnTo w (w.setCell ⟨rb, 0, none⟩ (.slice (some ⟨b, off', none⟩) (n - k) (c - k))) rb b off n c k from ⟨off', ho, h.set0 _, Tr.set _ _ _ _⟩)
  obtain ⟨c0, c1, f0, f1⟩ := h
  have hz : ((k : Int) == 0) = false := beq_eq_false_iff_ne.2 (by omega)
  clear T
  go_enter Tryd.func76, Tryd.ntmps76
  go_wp2_with fail
  refine (unhide HT).mono ?_
  rintro e w1 ⟨rfl, rfl⟩
  go_wp2_with fail
  · obtain rfl : c = k := by omega
    have F1 := unhide F off (Or.inl (by omega))
    rw [Nat.sub_self] at F1
    go_ret
    exact ⟨rfl, F1⟩
  · go_ret
    exact ⟨rfl, unhide F (off + k) (Or.inr rfl)⟩

theorem r_number (w0 w : World) (rb : Nat) (s : Option (List Int)) (g0 : Below w0.heap.size w0 w) (h : RdS w0 w rb s) :
    Calls Tryd.prog 76 #[.pointer (some ⟨rb, 0, none⟩)] w fun e w' => ∃ (u : Nat) (s' : Option (List Int)), e = .returned (.int .u64 (u : Int)) ∧ oU u ∧ Res pU s u s' ∧ (s' = none → u = 0) ∧ RdTo w0 w w' rb s' := by
  cases s with
  | none =>
    refine (rn_none w rb none 0 0 true h 0 (by simpa using take_none none 0 w)).mono ?_
    rintro e w' ⟨rfl, k1, k2⟩
    exact ⟨0, none, rfl, by unfold oU; decide, Res.same, fun _ => rfl, k1, k2⟩
  | some zs =>
    obtain ⟨ao, n, c, hC, hnc, hn, hnil, hR⟩ := h
    have T := take_any ao n c zs w (hR.later g0) hn
    by_cases hz : (takeF zs 0 0).2 = 0
    · rw [hz] at T
      refine (rn_none w rb ao n c false hC _ T).mono ?_
      rintro e w' ⟨rfl, k1, k2⟩
      exact ⟨0, none, rfl, by unfold oU; decide, fun z e => by rw [← Option.some.inj e]; unfold pU; rw [if_pos hz], fun _ => rfl, k1, k2⟩
    · have hle := takeF_le zs 0 0
      rw [Nat.zero_add, hR.1] at hle
      rcases hR.2.2 with h0 | ⟨b, off, rfl, hc⟩
      · omega
      · refine (rn_some w rb b off n c _ _ hC (by omega) hle hnc T).mono ?_
        rintro e w' ⟨rfl, off', ho, k1, k2⟩
        refine ⟨_, some (zs.drop (takeF zs 0 0).2), rfl, takeF_lt zs 0 0 (by decide), ⟨zs, rfl, by unfold pU; rw [if_neg hz]⟩, (fun e => by cases e), ?_, k2⟩
        refine ⟨_, _, _, k1, by omega, by omega, (fun e => by cases e), ?_⟩
        rcases ho with ho | ho
        · exact ⟨by rw [List.length_drop, hR.1], fun z hz => hR.2.1 z (List.mem_of_mem_drop hz), Or.inl (by omega)⟩
        · rw [ho]; exact hR.drop hle

set_option maxHeartbeats 400000 in
theorem r_signed (w0 w : World) (rb : Nat) (s : Option (List Int)) (g0 : Below w0.heap.size w0 w) (h : RdS w0 w rb s) :
    Calls Tryd.prog 64 #[.pointer (some ⟨rb, 0, none⟩)] w fun e w' => ∃ (v : Int) (s' : Option (List Int)), e = .returned (.int .i64 v) ∧ oI v ∧ Res pI s v s' ∧ RdTo w0 w w' rb s' := by
  have N := hide (r_number w0 w rb s g0 h)
  clear h g0
  go_enter Tryd.func64, Tryd.ntmps64
  go_wp2_with fail
  refine (unhide N).mono ?_
  rintro e w1 ⟨u, s', rfl, hu, hr, _, F⟩
  have Z := hide (zag_any u w1 hu)
  have K := hide (show oI (zagI u) ∧ Res pI s (zagI u) s' ∧ RdTo w0 w w1 rb s' from ⟨by unfold oU at hu; unfold oI zagI; split <;> omega, hr.map zagI, F⟩)
  clear N hu hr F
  go_wp2_with fail
  refine (unhide Z).mono ?_
  rintro e w2 ⟨rfl, rfl⟩
  clear Z
  go_wp2_with fail
  go_ret
  exact ⟨_, s', rfl, unhide K⟩

set_option maxHeartbeats 400000 in
theorem r_integer (w0 w : World) (rb : Nat) (s : Option (List Int)) (g0 : Below w0.heap.size w0 w) (h : RdS w0 w rb s) :
    Calls Tryd.prog 69 #[.pointer (some ⟨rb, 0, none⟩)] w fun e w' => ∃ (v : Int) (s' : Option (List Int)), e = .returned (.int .i64 v) ∧ oI v ∧ Res pI s v s' ∧ RdTo w0 w w' rb s' := by
  have N := hide (r_signed w0 w rb s g0 h)
  clear h g0
  go_enter Tryd.func69, Tryd.ntmps69
  go_wp2_with fail
  refine (unhide N).mono ?_
  rintro e w1 ⟨v, s', rfl, K⟩
  replace K := hide K
  clear N
  go_wp2_with fail
  go_ret
  exact ⟨v, s', rfl, unhide K⟩

theorem res_truth {s s' : Option (List Int)} {u : Nat} (h : Res pU s u s') (hu : u ≤ 1) : Res pB s (u == 1) s' := by
  have h2 : Res (pIf (fun u => decide (u ≤ 1)) pU) s u s' := by
    cases s' with
    | some r =>
      obtain ⟨zs, e, h1⟩ := h
      exact ⟨zs, e, by unfold pIf; rw [h1]; simp [hu]⟩
    | none =>
      intro zs e
      unfold pIf
      rw [h zs e]
  exact h2.map (fun u => u == 1)
theorem res_false {s s' : Option (List Int)} {u : Nat} {b : Bool} (h : Res pU s u s') (hn : s' = none → u = 0) (hu : ¬ u ≤ 1) : Res pB s b none := by
  cases s' with
  | none => have := hn rfl; omega
  | some r =>
    obtain ⟨zs, e, h1⟩ := h
    intro z e2
    rw [e] at e2
    obtain rfl := Option.some.inj e2
    unfold pB pMap pIf
    rw [h1]
    simp [hu]

set_option maxHeartbeats 400000 in
theorem r_truth (w0 w : World) (rb : Nat) (s : Option (List Int)) (g0 : Below w0.heap.size w0 w) (h : RdS w0 w rb s) :
    Calls Tryd.prog 62 #[.pointer (some ⟨rb, 0, none⟩)] w fun e w' => ∃ (v : Bool) (s' : Option (List Int)), e = .returned (.bool v) ∧ oB v ∧ Res pB s v s' ∧ RdTo w0 w w' rb s' := by
  have N := hide (r_number w0 w rb s g0 h)
  clear h g0
  go_enter Tryd.func62, Tryd.ntmps62
  go_wp2_with fail
  refine (unhide N).mono ?_
  rintro e w1 ⟨u, s', rfl, hu, hr, h0, F⟩
  clear N
  by_cases h1 : u ≤ 1
  · have K := hide (show Res pB s (u == 1) s' ∧ RdTo w0 w w1 rb s' from ⟨res_truth hr h1, F⟩)
    have hi : (((u : Nat) : Int) == 1) = (u == 1) := by
      have : u = 0 ∨ u = 1 := by omega
      rcases this with rfl | rfl <;> rfl
    clear hr F h0 hu
    go_wp2_with fail
    go_ret
    exact ⟨_, s', rfl, trivial, unhide K⟩
  · have hC : ∃ v bad, RdC w1 rb v bad := by
      cases s' with
      | none => exact ⟨_, _, F.1⟩
      | some zs => obtain ⟨ao, n, c, hC, _⟩ := F.1; exact ⟨_, _, hC⟩
    obtain ⟨v, bad, hC⟩ := hC
    have Fa := hide (r_fail w1 rb v bad hC)
    have K := hide (res_false (b := false) hr h0 h1)
    have hi : (((u : Nat) : Int) == 1) = false := beq_eq_false_iff_ne.2 (by omega)
    have T := hide F.2
    clear hr F h0 hu hC
    go_wp2_with fail
    refine (unhide Fa).mono ?_
    rintro e w2 ⟨rfl, k1, k2⟩
    have K2 := hide (show RdTo w0 w w2 rb none from ⟨k1, (unhide T).trans k2⟩)
    clear Fa k1 k2
    go_wp2_with fail
    go_ret
    exact ⟨_, none, rfl, trivial, unhide K, unhide K2⟩
end Go.Proofs.YtdekhnfncecacaaDoor
