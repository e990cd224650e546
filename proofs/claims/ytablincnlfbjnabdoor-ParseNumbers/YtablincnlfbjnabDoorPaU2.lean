/- The program's parser: list. -/
import Derived.Test.YtablincnlfbjnabDoorPaU
namespace Go.Proofs.YtablincnlfbjnabDoor
set_option maxRecDepth 100000
open Go.RowKit Go.Maps Go.ChangeShapes Go.WideShapes Go.ChangeAt Go.Deep

theorem pMore_end {ws : List Wd} {P : PS → Tt × PS} {f : Nat} {s : PS} (hi : pIs ws [44] s = false) : pMore ws P f s = ([], s) := by
  cases f with
  | zero => rfl
  | succ f => rw [pMore, if_neg (by rw [hi]; exact Bool.false_ne_true)]
theorem pMore_step {ws : List Wd} {P : PS → Tt × PS} {f : Nat} {s : PS} (hi : pIs ws [44] s = true) : pMore ws P (f + 1) s = ((P (pPass ws s)).1 :: (pMore ws P f (P (pPass ws s)).2).1, (pMore ws P f (P (pPass ws s)).2).2) := by
  rw [pMore, if_pos hi]
theorem pPass_k {ws : List Wd} {s : PS} (h : s.k + 1 < ws.length) : s.k < (pPass ws s).k ∧ (pPass ws s).k < ws.length := by
  unfold pPass pFault
  split
  · exact ⟨by show s.k < ws.length - 1; omega, by show ws.length - 1 < ws.length; omega⟩
  · exact ⟨by show s.k < min (s.k + 1) (ws.length - 1); omega, by show min (s.k + 1) (ws.length - 1) < ws.length; omega⟩
/-- What is known at list's head. -/
def LR (rb wb wc : Nat) (ws : List Wd) (P : PS → Tt × PS) (s0 : PS) (y : World) (R : List Tt × PS) (s : PS) (ts : List Tt) (kv : Value) (wr : World) : Prop :=
  Pn rb wb wc ws s y wr ∧ OwK wr y.heap.size kv ts ∧ s0.k ≤ s.k ∧ ts.length ≤ s.k + 1 ∧ ∃ f, R = (ts ++ (pMore ws P f s).1, (pMore ws P f s).2) ∧ mu ws s ≤ f
set_option maxHeartbeats 4000000 in
theorem list_any {rb wb wc : Nat} {ws : List Wd} {s0 : PS} {y : World} (h : RSt rb wb wc ws s0 y) (F : Nat) (P : PS → Tt × PS) (hF : Ent F) (hp : ∀ s, s0.k ≤ s.k → Ok rb wb wc ws F P s) (hm : ∀ s, s.k < ws.length → s.k ≤ (P s).2.k) : Calls Tryd.prog 30 #[.pointer (some ⟨rb, 0, none⟩), .func (.func F) #[.pointer (some ⟨rb, 0, none⟩)] #[]] y (LTo rb wb wc ws (pList ws P s0) y) := by
  have hlen := h.w.len
  have hk0 := h.k
  have I1 := hide (is_any h [41])
  obtain ⟨R, hR⟩ : ∃ R, R = pList ws P s0 := ⟨_, rfl⟩
  rw [← hR]
  unfold pList at hR
  cases h41 : pIs ws [41] s0
  · rw [h41] at hR I1
    simp only [Bool.false_eq_true, if_false] at hR
    have C1 : Hid (∀ w1, G y w1 → Calls Tryd.prog F #[.pointer (some ⟨rb, 0, none⟩)] w1 (NTo rb wb wc ws (P s0) w1) ∧ ∀ w3 ao n c, OwK w3 w1.heap.size (.slice ao n c) (P s0).1.ks → RSt rb wb wc ws (P s0).2 w3 → Gt rb w1 w3 →
        Hid (LR rb wb wc ws P s0 y R (P s0).2 [(P s0).1] (.slice (some ⟨w3.heap.size, 0, none⟩) 1 1) (w3.alloc (.cells #[.string ⟨(P s0).1.k.toArray⟩, .string ⟨(P s0).1.x.toArray⟩, .int .i64 (P s0).1.a, .slice ao n c] 27)))) := hide fun w1 g => ⟨hp s0 (Nat.le_refl _) _ (h.g g), fun w3 ao n c ho hs3 hg3 => hide (by
      have hz1 := g.size
      have hz3 := hg3.size
      have hk3 := hs3.k
      exact ⟨((Pn.new h).g g |>.to hs3 hg3).al _, (OwA.mono ho hz1).lit (Nat.le_trans hz1 hz3), hm s0 hk0, by simp, ws.length, by rw [hR]; rfl, by unfold mu; omega⟩)⟩
    have TK : Hid (∀ s ts kv wr, LR rb wb wc ws P s0 y R s ts kv wr → Calls Tryd.prog 44 #[.pointer (some ⟨rb, 0, none⟩), .string ⟨[44].toArray⟩] wr (UTo rb wb wc ws (pTake ws [44] s).2 wr (.bool (pTake ws [44] s).1))) := hide fun s ts kv wr hu => take_any hu.1.st [44] (by simp)
    have EN : Hid (∀ s ts kv wr, LR rb wb wc ws P s0 y R s ts kv wr → pIs ws [44] s = false → ∀ w2, UTo rb wb wc ws s wr (.bool false) (.returned (.bool false)) w2 → LTo rb wb wc ws R y (.returned kv) w2) := hide fun s ts kv wr hu hi w2 h2' => by
      obtain ⟨h1, h2, h3, h4, f, h6, h7⟩ := hu
      rw [pMore_end hi] at h6
      subst h6
      have hrl := h1.rl
      exact ⟨kv, rfl, by rw [List.append_nil]; exact h2.gt hrl h2'.2.2, h2'.2.1, h1.gt.trans h2'.2.2⟩
    have RD : Hid (∀ s ts kv wr, LR rb wb wc ws P s0 y R s ts kv wr → pIs ws [44] s = true → ∀ w2, UTo rb wb wc ws (pPass ws s) wr (.bool true) (.returned (.bool true)) w2 → Calls Tryd.prog F #[.pointer (some ⟨rb, 0, none⟩)] w2 (NTo rb wb wc ws (P (pPass ws s)) w2) ∧ ∀ w3 ao n c, OwK w3 w2.heap.size (.slice ao n c) (P (pPass ws s)).1.ks → RSt rb wb wc ws (P (pPass ws s)).2 w3 → Gt rb w2 w3 →
        ∃ v' w', (Builtin.append_ #[25, 25] 25 #[kv, .slice (some ⟨w3.heap.size, 0, none⟩) 1 1]).run Tryd.prog (w3.alloc (.cells #[.string ⟨(P (pPass ws s)).1.k.toArray⟩, .string ⟨(P (pPass ws s)).1.x.toArray⟩, .int .i64 (P (pPass ws s)).1.a, .slice ao n c] 27)) = .ok v' w' ∧ Hid (LR rb wb wc ws P s0 y R (P (pPass ws s)).2 (ts ++ [(P (pPass ws s)).1]) v' w' ∧ muK rb w' < muK rb wr)) := hide fun s ts kv wr hu hi w2 h2' => by
      obtain ⟨h1, h2, h3, h4, f, h6, h7⟩ := hu
      obtain ⟨_, hs2, hg2⟩ := h2'
      have hrl := h1.rl
      have hmore := h1.st.more (Or.inl (by have := of_decide_eq_true hi; rw [this]; simp))
      have hpk := pPass_k hmore
      refine ⟨hp _ (by omega) _ hs2, fun w3 ao n c ho hs3 hg3 => ?_⟩
      have hlt := h2.lt
      have hsz1 := h1.gt.size
      have hsz2 := hg2.size
      have hsz3 := hg3.size
      have hk := h1.st.k
      have hk3 := hs3.k
      obtain ⟨v', w', r1, r2, r3⟩ := ((h2.gt hrl hg2).gt hrl hg3).app ho (Nat.le_trans hsz1 hsz2) hsz3 (fun q hq => by have := (hlt q hq).2; omega) (by omega)
      have p3 := ((h1.to hs2 hg2).to hs3 hg3).own r3 (fun q e => (hlt q e).1)
      have hm' := hm (pPass ws s) hpk.2
      obtain ⟨f, rfl⟩ : ∃ g, f = g + 1 := ⟨f - 1, by unfold mu at h7; omega⟩
      refine ⟨v', w', r1, hide ⟨⟨p3, r2, by omega, ?_, f, ?_, ?_⟩, ?_⟩⟩
      · rw [List.length_append, List.length_singleton]; omega
      · rw [h6, pMore_step hi, List.append_assoc]
        rfl
      · unfold mu at h7 ⊢; omega
      · rw [muK_of p3.st, muK_of h1.st]; omega
    clear hR hp hm h hlen hk0
    go_enter Tryd.func30, Tryd.ntmps30
    go_wp2_with fail
    refine (unhide I1).mono ?_
    rintro e w1 ⟨rfl, g⟩
    obtain ⟨C, A⟩ := unhide C1 w1 g
    replace C := hide C
    replace A := hide A
    clear C1 I1 g
    go_wp2_with fail
    refine (unhide C).mono ?_
    rintro e w3 hn
    obtain ⟨ao, n, c, rfl, ho, hs, hg⟩ := hn.open
    have ST := hide (unhide A w3 ao n c ho hs hg)
    clear A C ho hs hg hn
    go_wp2_with fail
    go_loopw [5] (fun v wr => ∃ s ts, Hid (LR rb wb wc ws P s0 y R s ts v wr)) (fun _ wr => muK rb wr)
    case atStart => exact ⟨_, _, unhide ST⟩
    case round =>
      obtain ⟨s, ts, hu⟩ := hrel
      have T := hide (unhide TK _ _ _ _ (unhide hu))
      unfold pTake at T
      cases hi : pIs ws [44] s
      · rw [hi] at T
        simp only [Bool.false_eq_true, if_false] at T
        have K := hide (unhide EN _ _ _ _ (unhide hu) hi)
        clear RD EN ST TK hu
        go_wp2_with fail
        refine (unhide T).mono ?_
        rintro e w2 hT
        obtain ⟨rfl, hT2⟩ := hT
        have K2 := hide (unhide K w2 ⟨rfl, hT2⟩)
        clear K T hT2
        go_wp2_with fail
        go_ret
        exact unhide K2
      · rw [hi] at T
        simp only [if_true] at T
        have RD1 := hide (unhide RD _ _ _ _ (unhide hu) hi)
        clear RD EN ST TK hu
        go_wp2_with fail
        refine (unhide T).mono ?_
        rintro e w2 hT
        obtain ⟨rfl, hT2⟩ := hT
        obtain ⟨C, A⟩ := unhide RD1 w2 ⟨rfl, hT2⟩
        replace C := hide C
        replace A := hide A
        clear RD1 T hT2
        go_wp2_with fail
        refine (unhide C).mono ?_
        rintro e w3 hn
        obtain ⟨ao, n, c, rfl, ho, hs, hg⟩ := hn.open
        obtain ⟨v', w', hrun, HN⟩ := unhide A w3 ao n c ho hs hg
        clear A C ho hs hg hn
        go_wp2_with (at_builtin; refine wpl_run rfl (.tmp 13) (.tmp 16) 25 rfl _ _ rfl rfl _ _ hrun ?_; clear hrun)
        go_roundw
        case rel => exact ⟨_, _, hide (unhide HN).1⟩
        case measure => exact (unhide HN).2
  · rw [h41] at hR I1
    simp only [if_true] at hR
    have K : Hid (∀ w1, G y w1 → LTo rb wb wc ws R y (.returned (.slice none 0 0)) w1) := hide fun w1 g => ⟨_, rfl, by rw [hR]; exact OwK.nil _ _, by rw [hR]; exact h.g g, g.gt⟩
    clear hR hp hm h hlen hk0
    go_enter Tryd.func30, Tryd.ntmps30
    go_wp2_with fail
    refine (unhide I1).mono ?_
    rintro e w1 ⟨rfl, g⟩
    have K1 := hide (unhide K w1 g)
    clear K I1 g
    go_wp2_with fail
    go_ret
    exact unhide K1
end Go.Proofs.YtablincnlfbjnabDoor
