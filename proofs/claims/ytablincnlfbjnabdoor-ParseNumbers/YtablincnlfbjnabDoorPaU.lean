/- The program's parser: until, list. -/
import Derived.Test.YtablincnlfbjnabDoorPaH
import Derived.Deep.DeepCutAuto
namespace Go.Proofs.YtablincnlfbjnabDoor
set_option maxRecDepth 100000
open Go.RowKit Go.Maps Go.ChangeShapes Go.WideShapes Go.ChangeAt Go.Deep

/-- How many words are left, read off the reader; 0 with a fault. -/
def muE (rb : Nat) (w : World) : Nat :=
  match w.cell? ⟨rb, 0, none⟩, w.cell? ⟨rb, 3, none⟩ with
  | some (.slice _ n _), some (.int _ e) => if e = 0 then n + 1 else 0
  | _, _ => 0
theorem muE_of {rb wb wc : Nat} {ws : List Wd} {s : PS} {y : World} (h : RSt rb wb wc ws s y) : muE rb y = if s.e = 0 then ws.length - s.k + 1 else 0 := by
  obtain ⟨c0, _, _, c3⟩ := h.b.c
  unfold muE
  rw [c0, c3]
/-- How many words are left. -/
def muK (rb : Nat) (w : World) : Nat :=
  match w.cell? ⟨rb, 0, none⟩ with
  | some (.slice _ n _) => n
  | _ => 0
theorem muK_of {rb wb wc : Nat} {ws : List Wd} {s : PS} {y : World} (h : RSt rb wb wc ws s y) : muK rb y = ws.length - s.k := by
  obtain ⟨c0, _, _, _⟩ := h.b.c
  unfold muK
  rw [c0]
theorem muE_g {rb : Nat} {w w' : World} (h : w'.heap[rb]? = w.heap[rb]?) : muE rb w' = muE rb w := by
  unfold muE
  rw [World.cell?_of_block (a := ⟨rb, 0, none⟩) h, World.cell?_of_block (a := ⟨rb, 3, none⟩) h]
theorem pUntil_step {ws : List Wd} {t : List UInt8} {P : PS → Tt × PS} {f : Nat} {s : PS} (h0 : s.e = 0) (hi : pIs ws t s = false) : pUntil ws t P (f + 1) s = ((P s).1 :: (pUntil ws t P f (P s).2).1, (pUntil ws t P f (P s).2).2) := by
  rw [pUntil, if_pos h0, if_neg (by rw [hi]; exact Bool.false_ne_true)]
/-- What is known at until's head. -/
def UR (rb wb wc : Nat) (ws : List Wd) (t : List UInt8) (P : PS → Tt × PS) (s0 : PS) (y : World) (R : List Tt × PS) (s : PS) (ts : List Tt) (kv : Value) (wr : World) : Prop :=
  Pn rb wb wc ws s y wr ∧ OwK wr y.heap.size kv ts ∧ s0.k ≤ s.k ∧ ts.length ≤ ws.length ∧ (s.e = 0 → ts.length ≤ s.k ∧ s0.e = 0) ∧ ∃ f, R = (ts ++ (pUntil ws t P f s).1, (pUntil ws t P f s).2) ∧ 1 ≤ f ∧ (s.e = 0 → mu ws s + 2 ≤ f)
set_option maxHeartbeats 4000000 in
theorem until_any {rb wb wc : Nat} {ws : List Wd} {s0 : PS} {y : World} (h : RSt rb wb wc ws s0 y) (t : List UInt8) (ht : t ≠ []) (F : Nat) (P : PS → Tt × PS) (hF : Ent F) (hp : ∀ s, s0.e = 0 → s0.k ≤ s.k → s.e = 0 → Ok rb wb wc ws F P s) (hm : ∀ s, s.k < ws.length → s.k ≤ (P s).2.k) (he : ∀ s, s.k < ws.length → (P s).2.e = 0 → s.k < (P s).2.k) : Calls Tryd.prog 34 #[.pointer (some ⟨rb, 0, none⟩), .string ⟨t.toArray⟩, .func (.func F) #[.pointer (some ⟨rb, 0, none⟩)] #[]] y (LTo rb wb wc ws (pUntil ws t P (ws.length + 1) s0) y) := by
  have hlen := h.w.len
  have hk0 := h.k
  obtain ⟨R, hR⟩ : ∃ R, R = pUntil ws t P (ws.length + 1) s0 := ⟨_, rfl⟩
  rw [← hR]
  have ST : Hid (∃ s ts, UR rb wb wc ws t P s0 y R s ts (.slice none 0 0) y) := hide ⟨s0, [], Pn.new h, OwK.nil _ _, Nat.le_refl _, Nat.zero_le _, fun e => ⟨Nat.zero_le _, e⟩, ws.length + 1, by rw [← hR, List.nil_append], by omega, fun _ => by unfold mu; omega⟩
  have TK : Hid (∀ s ts kv wr, UR rb wb wc ws t P s0 y R s ts kv wr → Calls Tryd.prog 44 #[.pointer (some ⟨rb, 0, none⟩), .string ⟨t.toArray⟩] wr (UTo rb wb wc ws (pTake ws t s).2 wr (.bool (pTake ws t s).1))) := hide fun s ts kv wr hu => take_any hu.1.st t ht
  have EN : Hid (∀ s ts kv wr, UR rb wb wc ws t P s0 y R s ts kv wr → ¬ s.e = 0 → LTo rb wb wc ws R y (.returned kv) wr) := hide fun s ts kv wr hu hne => by
    obtain ⟨h1, h2, h3, h4, h5, f, h6, h7, h8⟩ := hu
    obtain ⟨f, rfl⟩ : ∃ g, f = g + 1 := ⟨f - 1, by omega⟩
    rw [show pUntil ws t P (f + 1) s = ([], s) by unfold pUntil; rw [if_neg hne]] at h6
    subst h6
    exact ⟨kv, rfl, by rw [List.append_nil]; exact h2, h1.st, h1.gt⟩
  have EC : Hid (∀ s ts kv wr, UR rb wb wc ws t P s0 y R s ts kv wr → s.e = 0 → pIs ws t s = true → ∀ w2, UTo rb wb wc ws (pPass ws s) wr (.bool true) (.returned (.bool true)) w2 → LTo rb wb wc ws R y (.returned kv) w2) := hide fun s ts kv wr hu h0 hi w2 h2' => by
    obtain ⟨h1, h2, h3, h4, h5, f, h6, h7, h8⟩ := hu
    obtain ⟨f, rfl⟩ : ∃ g, f = g + 1 := ⟨f - 1, by omega⟩
    rw [show pUntil ws t P (f + 1) s = ([], pPass ws s) by unfold pUntil; rw [if_pos h0, if_pos hi]] at h6
    subst h6
    have hrl := h1.rl
    exact ⟨kv, rfl, by rw [List.append_nil]; exact h2.gt hrl h2'.2.2, h2'.2.1, h1.gt.trans h2'.2.2⟩
  have RD : Hid (∀ s ts kv wr, UR rb wb wc ws t P s0 y R s ts kv wr → s.e = 0 → pIs ws t s = false → ∀ w2, UTo rb wb wc ws s wr (.bool false) (.returned (.bool false)) w2 → Calls Tryd.prog F #[.pointer (some ⟨rb, 0, none⟩)] w2 (NTo rb wb wc ws (P s) w2) ∧ ∀ w3 ao n c, OwK w3 w2.heap.size (.slice ao n c) (P s).1.ks → RSt rb wb wc ws (P s).2 w3 → Gt rb w2 w3 →
      ∃ v' w', (Builtin.append_ #[25, 25] 25 #[kv, .slice (some ⟨w3.heap.size, 0, none⟩) 1 1]).run Tryd.prog (w3.alloc (.cells #[.string ⟨(P s).1.k.toArray⟩, .string ⟨(P s).1.x.toArray⟩, .int .i64 (P s).1.a, .slice ao n c] 27)) = .ok v' w' ∧ Hid (UR rb wb wc ws t P s0 y R (P s).2 (ts ++ [(P s).1]) v' w' ∧ muE rb w' < muE rb wr)) := hide fun s ts kv wr hu h0 hi w2 h2' => by
    obtain ⟨h1, h2, h3, h4, h5, f, h6, h7, h8⟩ := hu
    obtain ⟨_, hs2, hg2⟩ := h2'
    have hrl := h1.rl
    obtain ⟨h5', h5e⟩ := h5 h0
    refine ⟨hp s h5e h3 h0 _ hs2, fun w3 ao n c ho hs3 hg3 => ?_⟩
    have hlt := h2.lt
    have hsz1 := h1.gt.size
    have hsz2 := hg2.size
    have hsz3 := hg3.size
    have hk := h1.st.k
    have hk3 := hs3.k
    obtain ⟨v', w', r1, r2, r3⟩ := ((h2.gt hrl hg2).gt hrl hg3).app ho (Nat.le_trans hsz1 hsz2) hsz3 (fun q hq => by have := (hlt q hq).2; omega) (by omega)
    have p3 := ((h1.to hs2 hg2).to hs3 hg3).own r3 (fun q e => (hlt q e).1)
    have hm' := hm s hk
    have he' := he s hk
    obtain ⟨f, rfl⟩ : ∃ g, f = g + 1 := ⟨f - 1, by omega⟩
    have h8' := h8 h0
    refine ⟨v', w', r1, hide ⟨⟨p3, r2, by omega, ?_, fun e => ?_, f, ?_, ?_, fun e => ?_⟩, ?_⟩⟩
    · rw [List.length_append, List.length_singleton]; omega
    · have := he' e
      rw [List.length_append, List.length_singleton]; exact ⟨by omega, h5e⟩
    · rw [h6, pUntil_step h0 hi, List.append_assoc]
      rfl
    · omega
    · have := he' e
      unfold mu at h8' ⊢; omega
    · rw [muE_of p3.st, muE_of h1.st, if_pos h0]
      split
      · have := he' (by assumption); omega
      · omega
  have CE : Hid (∀ s ts kv wr, UR rb wb wc ws t P s0 y R s ts kv wr → wr.cell? ⟨rb, 3, none⟩ = some (.int .i64 s.e)) := hide fun s ts kv wr hu => hu.1.st.b.c.2.2.2
  clear hR hp hm he h hlen hk0 ht
  go_enter Tryd.func34, Tryd.ntmps34
  go_wp2_with fail
  go_loopw [7] (fun v wr => ∃ s ts, Hid (UR rb wb wc ws t P s0 y R s ts v wr)) (fun _ wr => muE rb wr)
  case atStart =>
    obtain ⟨s, ts, hu⟩ := unhide ST
    exact ⟨s, ts, hide hu⟩
  case round =>
    obtain ⟨s, ts, hu⟩ := hrel
    have c3 := unhide CE _ _ _ _ (unhide hu)
    have T := hide (unhide TK _ _ _ _ (unhide hu))
    by_cases h0 : s.e = 0
    · rw [h0] at c3
      unfold pTake at T
      cases hi : pIs ws t s
      · rw [hi] at T
        simp only [Bool.false_eq_true, if_false] at T
        have RD1 := hide (unhide RD _ _ _ _ (unhide hu) h0 hi)
        clear RD EC EN ST TK CE hu
        go_wp2_with fail
        refine (unhide T).mono ?_
        rintro e w2 hT
        obtain ⟨rfl, hT2⟩ := hT
        obtain ⟨C, A⟩ := unhide RD1 w2 ⟨rfl, hT2⟩
        replace C := hide C
        replace A := hide A
        clear RD1 T hT2
        go_wp2_with fail
        refine (unhide C).mono ?_
        rintro e w3 hn
        obtain ⟨ao, n, c, rfl, ho, hs, hg⟩ := hn.open
        obtain ⟨v', w', hrun, HN⟩ := unhide A w3 ao n c ho hs hg
        clear A C ho hs hg hn
        go_wp2_with (at_builtin; refine wpl_run rfl (.tmp 19) (.tmp 22) 25 rfl _ _ rfl rfl _ _ hrun ?_; clear hrun)
        go_roundw
        case rel => exact ⟨_, _, hide (unhide HN).1⟩
        case measure => exact (unhide HN).2
      · rw [hi] at T
        simp only [if_true] at T
        have K := hide (unhide EC _ _ _ _ (unhide hu) h0 hi)
        clear RD EC EN ST TK CE hu
        go_wp2_with fail
        refine (unhide T).mono ?_
        rintro e w2 hT
        obtain ⟨rfl, hT2⟩ := hT
        have K2 := hide (unhide K w2 ⟨rfl, hT2⟩)
        clear K T hT2
        go_wp2_with fail
        go_ret
        exact unhide K2
    · have h0' : (s.e == 0) = false := by simp [h0]
      have K := hide (unhide EN _ _ _ _ (unhide hu) h0)
      clear RD EC EN ST TK CE hu T
      go_wp2_with fail
      go_ret
      exact unhide K
end Go.Proofs.YtablincnlfbjnabDoor
