/- Here, one behind the other: PaC, PaD, PaBase, PaAw. -/
import Derived.Test.YtablincnlfbjnaaDoorPaB12
import Derived.Test.YtablincnlfbjnaaDoorLexCut
import Derived.Test.YtablincnlfbjnaaDoorLexF
import Derived.Test.YtablincnlfbjnaaDoorTie
import Derived.Test.YtablincnlfbjnaaDoorCards
import Derived.LaidMore
import Derived.Stop.Joined
import Derived.Stop.LaidErr
import Derived.SevenTiedAt
import Derived.Lib.LaidTab
import Derived.Lib.FieldsLaws
import Derived.ChangeMaps5
/- The program's parser: all levels; program. -/
namespace Go.Proofs.YtablincnlfbjnaaDoor
set_option maxRecDepth 100000
open Go.RowKit Go.Maps Go.ChangeShapes Go.WideShapes Go.ChangeAt Go.Deep

theorem lv_run {rb wb wc : Nat} {ws : List Wd} (hw : WsOk ws) : ∀ M, Lv rb wb wc ws (runP ws M) M := fun M => by
  induction M with
  | zero => exact ⟨hw, runP_le hw 0, fun n s h => absurd h (Nat.not_lt_zero _), fun n s hn hk => runP_lt hw 0 n (by rcases hn with h | h | h | h <;> simp [h]) s hk⟩
  | succ M L =>
    refine ⟨hw, runP_le hw (M + 1), fun n s hs => ?_, fun n s hn hk => runP_lt hw (M + 1) n hn s hk⟩
    show Ok rb wb wc ws (ntF n) (levP ws (runP ws M) n) s
    cases n with
    | params => exact params_ok L s hs
    | type => exact typ_ok L s hs
    | typeOr => exact typeOr_ok L s hs
    | block => exact block_ok L s hs
    | elseOr => exact elseOr_ok L s hs
    | expr => exact expr_ok L s hs
    | exprOr => exact exprOr_ok L s hs
    | call => exact call_ok L s hs
    | unary => exact unary_ok L s hs
    | inside => exact inside_ok L s hs
    | field => exact field_ok L s hs
    | stmt => exact stmt_ok L s hs
    | choice => exact choice_ok L s hs
    | decl => exact decl_ok L s hs
    | param => exact param_ok L s hs
/-- What is known at the head of program's loop. -/
def PgR (rb wb wc : Nat) (ws : List Wd) (D : PS → Tt × PS) (Rf : List Tt × PS) (a : Int) (y : World) (m : Nat) (ks : List Tt) (s : PS) (kv : Value) (w : World) : Prop :=
  PT rb wb wc ws y m (.mk [112, 114, 111, 103, 114, 97, 109] [] a ks, s) kv w ∧ (s.e ≠ 0 → s.k = ws.length - 1) ∧ ks.length ≤ s.k ∧ ∃ f, Rf = (ks ++ (pProg ws D f s).1, (pProg ws D f s).2) ∧ mu ws s + 1 ≤ f
set_option maxHeartbeats 8000000 in
theorem prog_ok {rb wb wc : Nat} {ws : List Wd} (hw : WsOk ws) (s0 : PS) (he : s0.e = 0) {y : World} (h : RSt rb wb wc ws s0 y) : Calls Tryd.prog 8 #[.pointer (some ⟨rb, 0, none⟩)] y (NTo rb wb wc ws (progP ws s0) y) := by
  have hk := h.k
  have hln := h.w.len
  have LL : Hid (Lv rb wb wc ws (runP ws (ws.length + 1)) (ws.length + 1)) := hide (lv_run hw _)
  have CR : Hid (∀ w1, RSt rb wb wc ws s0 w1 → Calls Tryd.prog 12 #[.pointer (some ⟨rb, 0, none⟩), .string ⟨#[112, 114, 111, 103, 114, 97, 109]⟩, .string ⟨#[]⟩, .slice none 0 0] w1 (NTo rb wb wc ws (.mk [112, 114, 111, 103, 114, 97, 109] [] ((wdAt ws s0).o : Int) [], s0) w1)) := hide fun w1 hh => row_nil (T := runP ws 0) hh [112, 114, 111, 103, 114, 97, 109] rc_0 trivial
  obtain ⟨D, hD⟩ : ∃ D, D = runP ws (ws.length + 1) .decl := ⟨_, rfl⟩
  have CD : Hid (∀ s, s.k < ws.length → ∀ w1, RSt rb wb wc ws s w1 → Calls Tryd.prog 14 #[.pointer (some ⟨rb, 0, none⟩)] w1 (NTo rb wb wc ws (D s) w1)) := hide fun s hs w1 hh => by
    rw [hD]
    exact (unhide LL).ok .decl s (by unfold mu; omega) w1 hh
  have DL : Hid (∀ s, s.k < ws.length → Lt ws s (D s).2) := hide fun s hs => by rw [hD]; exact runP_lt hw _ .decl (by simp) s hs
  unfold progP
  rw [← hD]
  dsimp only
  obtain ⟨Rf, hRf⟩ : ∃ Rf, Rf = pProg ws D (ws.length + 1) s0 := ⟨_, rfl⟩
  rw [← hRf]
  generalize ((wdAt ws s0).o : Int) = a at *
  have ST : Hid (∀ m kv w, PT rb wb wc ws y m (.mk [112, 114, 111, 103, 114, 97, 109] [] a [], s0) kv w → PgR rb wb wc ws D Rf a y m [] s0 kv w) := hide fun m kv w hp => ⟨hp, fun e => absurd he e, Nat.zero_le _, ws.length + 1, by rw [← hRf, List.nil_append], by unfold mu; omega⟩
  have p := hide ((Pn.new h).al (.cells zBox 25))
  have b := hide (BoxT.zero y)
  have fl0 := pfld0
  replace hln := hide hln
  replace hw := hide hw
  clear h hk hRf hD LL he
  go_enter Tryd.func8, Tryd.ntmps8
  go_wp2_with fail
  refine (unhide CR _ (unhide p).st).mono ?_
  rintro e w2 hn
  obtain ⟨o0, n0, c0, e1, ho, h2, g2⟩ := hn.open
  have e1' : e = .returned (.agg #[.string ⟨#[112, 114, 111, 103, 114, 97, 109]⟩, .string ⟨#[]⟩, .int .i64 a, .slice o0 n0 c0]) := e1
  subst e1'
  have hI : Hid (PgR rb wb wc ws D Rf a y w2.heap.size [] s0 (.slice o0 n0 c0) (w2.alloc (.cells #[.string ⟨#[112, 114, 111, 103, 114, 97, 109]⟩, .string ⟨#[]⟩, .int .i64 a, .slice o0 n0 c0] 25))) := hide (unhide ST _ _ _ (PT.new (unhide p) (unhide b) ho h2 g2))
  clear ST CR hn ho h2 g2 p b e1
  go_wp2_with fail
  go_loopw [] (fun wr => ∃ ks s kv, Hid (PgR rb wb wc ws D Rf a y w2.heap.size ks s kv wr)) (fun wr => muK rb wr)
  case atStart => exact ⟨_, _, _, hI⟩
  case round =>
    clear hI
    obtain ⟨ks, s, kv, hr⟩ := hrel
    have CW : Hid (Calls Tryd.prog 13 #[.pointer (some ⟨rb, 0, none⟩)] wr (fun e w2 => e = .returned (.agg #[.int .i64 ((wdAt ws s).k : Int), .string ⟨(wdAt ws s).x.toArray⟩, .int .i64 ((wdAt ws s).o : Int)]) ∧ G wr w2)) := hide (word_any (unhide hr).1.p.st)
    obtain ⟨kao, kc, kve⟩ := (unhide hr).1.ow.sl
    by_cases h0 : (wdAt ws s).k = 0
    · have EN : Hid (∀ w1, G wr w1 → PT rb wb wc ws y w2.heap.size (.mk [112, 114, 111, 103, 114, 97, 109] [] a Rf.1, Rf.2) kv w1) := hide fun w1 g => by
        obtain ⟨hp, _, _, f, e1, e2⟩ := unhide hr
        obtain ⟨f, rfl⟩ : ∃ g, f = g + 1 := ⟨f - 1, by omega⟩
        rw [pProg, if_pos h0] at e1
        rw [e1]
        dsimp only
        rw [List.append_nil]
        exact hp.g g
      rw [h0] at CW
      generalize (wdAt ws s).x = wx at *
      generalize (wdAt ws s).o = wo at *
      clear hr h0 kve CD DL
      go_wp2_with fail
      refine (unhide CW).mono ?_
      rintro e w3 ⟨rfl, g⟩
      obtain ⟨ao, n, c, rfl, ⟨k0, k1, k2, k3⟩, ⟨u0, u1, u2, u3, q0, q1, q2, q3⟩, ⟨z0, z1, z2, z3⟩, K⟩ := (unhide EN w3 g).finM
      clear CW EN g
      go_wp2_with fail
      obtain ⟨K1, d0, d1, d2, d3⟩ := unhide K
      refine bodyPost_ret (by simp [results, Tryd.results8, go_sem, d0, d1, d2, d3]; try rfl) rfl ?_
      exact K1
    · have h0' : ¬ ((wdAt ws s).k : Int) = 0 := by omega
      have hsk : s.k < ws.length := (unhide hr).1.p.st.k
      have hmore := wsOk_more (unhide hw) hsk (Or.inr h0)
      have CD1 : Hid (∀ w1, G wr w1 → Calls Tryd.prog 14 #[.pointer (some ⟨rb, 0, none⟩)] w1.drew (NTo rb wb wc ws (D s) w1.drew)) := hide fun w1 g => unhide CD s hsk _ (((unhide hr).1.p.st.g g).g (G.refl _).drew)
      have AP : Hid (∀ w1, G wr w1 → w1.cell? ⟨w2.heap.size, 3, none⟩ = some kv ∧ ∀ w5 o1 n1 c1, OwK w5 w1.drew.heap.size (.slice o1 n1 c1) (D s).1.ks → RSt rb wb wc ws (D s).2 w5 → Gt rb w1.drew w5 → _) := hide fun w1 g => ⟨((unhide hr).1.g g).bm.c.2.2.2, fun w5 o1 n1 c1 ho h2 g2 => ((unhide hr).1.g g).app (q := D s) (w2 := w5) (o1 := o1) (n1 := n1) (c1 := c1) (by have := (unhide hr).2.2.1; have := unhide hln; show ks.length ≤ 900000; omega) (G.refl _).drew ho h2 g2⟩
      have NX : Hid (∀ v' w', PT rb wb wc ws y w2.heap.size (.mk [112, 114, 111, 103, 114, 97, 109] [] a (ks ++ [(D s).1]), (D s).2) v' w' → PgR rb wb wc ws D Rf a y w2.heap.size (ks ++ [(D s).1]) (D s).2 v' w' ∧ muK rb w' < muK rb wr) := hide fun v' w' hp => by
        obtain ⟨hp0, hinv, hl, f, e1, e2⟩ := unhide hr
        have hlt := unhide DL s hsk
        obtain ⟨f, rfl⟩ : ∃ g, f = g + 1 := ⟨f - 1, by omega⟩
        rw [pProg, if_neg h0] at e1
        have hinv2 := hlt.le.f hinv
        have hkl := hlt.le.l
        have hstep : s.k < (D s).2.k := by
          by_cases e : (D s).2.e = 0
          · exact hlt.on e
          · have := hinv2 e; omega
        refine ⟨⟨hp, hinv2, by rw [List.length_append, List.length_singleton]; omega, f, by rw [e1, List.append_assoc]; rfl, by unfold mu at *; omega⟩, ?_⟩
        rw [muK_of hp.p.st, muK_of hp0.p.st]
        show ws.length - (D s).2.k < ws.length - s.k
        omega
      generalize (wdAt ws s).x = wx at *
      generalize (wdAt ws s).k = wk at *
      generalize (wdAt ws s).o = wo at *
      generalize D s = t at *
      generalize ks.length = kn at kve
      clear hr h0 CD DL hsk hmore
      subst kve
      go_wp2_with fail
      refine (unhide CW).mono ?_
      rintro e w3 ⟨rfl, g⟩
      obtain ⟨e4, ap⟩ := unhide AP w3 g
      replace ap := hide ap
      have CBd := hide (unhide CD1 w3 g)
      clear CW AP CD1 g
      go_wp2_with fail
      go_region_law ((first
        | (go_simp; go_at_call 14; refine (unhide CBd).mono ?_; rintro e w5 hl; obtain ⟨lo, ln, lc, rfl, ho, hs, hg⟩ := hl.open; obtain ⟨e4, e4k, xo, xn, xc, w', hrun, e5, e6, HZ⟩ := unhide ap w5 lo ln lc ho hs hg; clear ap CBd ho hs hg; try go_simp)
        | (refine step_apN rfl (.tmp 11) (.tmp 14) 23 rfl _ _ rfl rfl _ _ hrun ?_)))
      all_goals
        clear hrun
        have N3 := hide (unhide NX _ _ (unhide HZ))
        clear NX HZ
        go_wp2_with fail
        go_roundw
        case rel => exact ⟨_, _, _, hide (unhide N3).1⟩
        case measure => exact (unhide N3).2
end Go.Proofs.YtablincnlfbjnaaDoor

/- The program's parser: Parse. -/
namespace Go.Proofs.YtablincnlfbjnaaDoor
set_option maxRecDepth 100000
open Go.RowKit Go.Maps Go.ChangeShapes Go.WideShapes Go.ChangeAt Go.Deep

/-- Words as a text has them: the end, and it alone, is empty. -/
def WG : List Wd → Prop
  | [] => False
  | [e] => e.x = [] ∧ e.k = 0
  | w :: v :: r => w.x ≠ [] ∧ w.k ≠ 0 ∧ WG (v :: r)
theorem WG.last : ∀ {ws : List Wd}, WG ws → WsOk ws := fun {ws} => by
  induction ws with
  | nil => intro h; exact h.elim
  | cons a r ih =>
    intro h
    cases r with
    | nil =>
      obtain ⟨h1, h2⟩ := h
      obtain ⟨k, x, o⟩ := a
      dsimp only at h1 h2
      subst h1 h2
      exact ⟨o, rfl⟩
    | cons b r =>
      obtain ⟨o, ho⟩ := ih h.2.2
      exact ⟨o, ho⟩
theorem WG.good : ∀ {ws : List Wd}, WG ws → ∀ (i : Nat) (wd : Wd), i + 1 < ws.length → ws[i]? = some wd → wd.x ≠ [] ∧ wd.k ≠ 0 := fun {ws} => by
  induction ws with
  | nil => intro h; exact h.elim
  | cons a r ih =>
    intro h i wd hi hw
    cases r with
    | nil => simp at hi
    | cons b r =>
      match i, hw with
      | 0, hw => cases hw; exact ⟨h.1, h.2.1⟩
      | i + 1, hw => exact ih h.2.2 i wd (by simpa using hi) hw
theorem firstW_kind {l : List UInt8} (h : (firstW l).2 ≠ 0) : (firstW l).1 ≠ 0 := by
  cases l with
  | nil => exact absurd rfl h
  | cons c r =>
    unfold firstW at h ⊢
    dsimp only at h ⊢
    split
    · rename_i h1
      rw [if_pos h1] at h
      unfold nameW at h ⊢
      split
      · rename_i h2; rw [if_pos h2] at h; exact absurd rfl h
      · split
        · exact (show (2 : Nat) ≠ 0 by decide)
        · exact (show (1 : Nat) ≠ 0 by decide)
    · rename_i h1
      rw [if_neg h1] at h
      split
      · rename_i h2
        rw [if_pos h2] at h
        unfold numW at h ⊢
        split
        · exact (show (3 : Nat) ≠ 0 by decide)
        · rename_i h3; rw [if_neg h3] at h; exact absurd rfl h
      · exact (show (4 : Nat) ≠ 0 by decide)
theorem cutL_good (l : List UInt8) : ∀ o, (cutL l o).2 = none → WG (cutL l o).1 ∧ (cutL l o).1.length ≤ l.length + 1 := by
  induction hn : l.length using Nat.strongRecOn generalizing l with
  | _ n ih =>
    intro o h
    subst hn
    have hg := gap_le l
    by_cases h1 : gap l < l.length
    · by_cases h2 : (firstW (l.drop (gap l))).2 = 0
      · rw [cutL_bad h1 h2] at h; cases h
      · have h3 := cutL_word (o := o) h1 h2
        have hle := firstW_le (l.drop (gap l))
        rw [List.length_drop] at hle
        rw [h3] at h ⊢
        dsimp only at h ⊢
        obtain ⟨q1, q2⟩ := ih ((l.drop (gap l)).drop (firstW (l.drop (gap l))).2).length (by rw [List.length_drop, List.length_drop]; omega) _ rfl _ h
        have hk := firstW_kind h2
        have hx : (l.drop (gap l)).take (firstW (l.drop (gap l))).2 ≠ [] := fun e => by
          have := congrArg List.length e
          rw [List.length_take, List.length_drop] at this
          simp at this
          omega
        refine ⟨?_, ?_⟩
        · generalize cutL ((l.drop (gap l)).drop (firstW (l.drop (gap l))).2) (o + gap l + (firstW (l.drop (gap l))).2) = q at q1 ⊢
          obtain ⟨q, _⟩ := q
          cases q with
          | nil => exact q1.elim
          | cons b r => exact ⟨hx, hk, q1⟩
        · rw [List.length_drop, List.length_drop] at q2
          rw [List.length_cons]
          omega
    · rw [cutL_end (by omega)]
      exact ⟨⟨rfl, rfl⟩, by simp⟩
/-- strings' table of blanks. -/
def SpAt (w : World) : Prop := ∀ c : Nat, c < 256 → w.cell? ⟨0, c, none⟩ = some (.int .u8 (if Lib.isSp (UInt8.ofNat c) then 1 else 0))
theorem SpAt.g {w w' : World} (h : SpAt w) (g : G w w') : SpAt w' := fun c hc => g.cell (h c hc)
/-- What Parse leaves. -/
def PaTo (w : World) (r : Tt × Int × Int) (e : Ending) (w' : World) : Prop := G w w' ∧ ∃ ao n c, e = .returned (.tuple #[.agg #[.string ⟨r.1.k.toArray⟩, .string ⟨r.1.x.toArray⟩, .int .i64 r.1.a, .slice ao n c], .int .i64 r.2.1, .int .i64 r.2.2]) ∧ OwK w' w.heap.size (.slice ao n c) r.1.ks
theorem build_n0 (w : World) : (Instr.build 25 #[]).run Tryd.prog w = .ok (.agg zBox) w := by kernel_rfl
set_option maxHeartbeats 8000000 in
theorem parse_any (s : ByteArray) (w : World) (hs : s.size ≤ 16384) (hE : EvAt w) (hT : SpAt w) : Calls Tryd.prog 6 #[.string s] w (PaTo w (textP s.data.toList)) := by
  have hl : s.data.toList.length = s.size := (Lib.size_eq s).symm
  have gz := G.alloc w (.cells zBox 25)
  have LX := hide (lexcut_any s _ hs (hE.g gz))
  have bn0 := build_n0
  have hgl : 0 < w.heap.size := World.block_lt_of_cell? w _ (hT 0 (by omega))
  unfold textP
  have hgood := cutL_good s.data.toList 0
  generalize cutL s.data.toList 0 = q at *
  obtain ⟨ws, oe⟩ := q
  cases oe with
  | some o =>
    dsimp only
    have K : Hid (∀ w1, G (w.alloc (.cells zBox 25)) w1 → (∃ u0 u1 u2 u3, w1.cell? ⟨w.heap.size, 0, none⟩ = some u0 ∧ w1.cell? ⟨w.heap.size, 1, none⟩ = some u1 ∧ w1.cell? ⟨w.heap.size, 2, none⟩ = some u2 ∧ w1.cell? ⟨w.heap.size, 3, none⟩ = some u3) ∧ (w1.frozen? ⟨w.heap.size, 0, none⟩ = false ∧ w1.frozen? ⟨w.heap.size, 1, none⟩ = false ∧ w1.frozen? ⟨w.heap.size, 2, none⟩ = false ∧ w1.frozen? ⟨w.heap.size, 3, none⟩ = false) ∧ Hid (G w (put4 w1 w.heap.size [] [] 0 (.slice none 0 0)) ∧ ((put4 w1 w.heap.size [] [] 0 (.slice none 0 0)).cell? ⟨w.heap.size, 0, none⟩ = some (.string ⟨#[]⟩) ∧ (put4 w1 w.heap.size [] [] 0 (.slice none 0 0)).cell? ⟨w.heap.size, 1, none⟩ = some (.string ⟨#[]⟩) ∧ (put4 w1 w.heap.size [] [] 0 (.slice none 0 0)).cell? ⟨w.heap.size, 2, none⟩ = some (.int .i64 0) ∧ (put4 w1 w.heap.size [] [] 0 (.slice none 0 0)).cell? ⟨w.heap.size, 3, none⟩ = some (.slice none 0 0)))) := hide fun w1 g => by
      have b := (BoxT.zero w).g g
      obtain ⟨c0, c1, c2, c3⟩ := b.c
      have g2 := gs_put w.heap.size [] [] 0 (.slice none 0 0) w1
      have g1 := gz.trans g
      exact ⟨⟨_, _, _, _, c0, c1, c2, c3⟩, b.ff, hide ⟨⟨g2.os.trans g1.os, g2.tape.trans g1.tape, g2.output.trans g1.output, Nat.le_trans g1.size g2.size, fun k hk => (g2.block k (Nat.lt_of_lt_of_le hk g1.size) (by show ¬ k = w.heap.size; omega)).trans (g1.block k hk)⟩, b.put.c⟩⟩
    clear hE hT hgood hl gz
    go_enter Tryd.func6, Tryd.ntmps6
    go_wp2_with fail
    refine (unhide LX).mono ?_
    rintro e w1 hc
    obtain ⟨rfl, g⟩ : e = .returned (.tuple #[.slice none 0 0, .int .i64 (o : Int), .int .i64 6]) ∧ G (w.alloc (.cells zBox 25)) w1 := by
      obtain ⟨g, hc⟩ := hc
      rcases hc with ⟨o', e1, e2⟩ | ⟨e1, _⟩
      · cases e1; exact ⟨e2, g⟩
      · cases e1
    obtain ⟨⟨u0, u1, u2, u3, q0, q1, q2, q3⟩, ⟨z0, z1, z2, z3⟩, K1⟩ := unhide K w1 g
    clear K LX hc g
    go_wp2_with fail
    obtain ⟨K2, d0, d1, d2, d3⟩ := unhide K1
    refine bodyPost_ret (by simp [results, Tryd.results6, go_sem, d0, d1, d2, d3]; try rfl) rfl ?_
    exact ⟨K2, _, _, _, rfl, OwA.nil _ _⟩
  | none =>
    dsimp only at hgood ⊢
    obtain ⟨hw1, hw2⟩ := hgood rfl
    have hok := hw1.last
    have hne : ws ≠ [] := fun e => by rw [e] at hw1; exact hw1
    have hn1 : 1 ≤ ws.length := by cases ws with | nil => exact absurd rfl hne | cons a r => simp
    have ST : Hid (∀ w1 v, G (w.alloc (.cells zBox 25)) w1 → OwW 41 w1 (w.alloc (.cells zBox 25)).heap.size v ws → ∃ g cap, v = .slice (some ⟨g, 0, none⟩) ws.length cap ∧ RSt w1.heap.size g cap ws ⟨0, 0, 0, 0⟩ (w1.alloc (.cells #[.slice (some ⟨g, 0, none⟩) ws.length cap, .int .i64 0, .int .i64 0, .int .i64 0] 34))) := hide fun w1 v g hv => by
      obtain ⟨b, cap, e, h1, h2, h3, h4⟩ := hv.get hne
      have ga := G.alloc w1 (.cells #[.slice (some ⟨b, 0, none⟩) ws.length cap, .int .i64 0, .int .i64 0, .int .i64 0] 34)
      have hT1 := (hT.g (gz.trans g)).g ga
      have hz := (gz.trans g).size
      refine ⟨b, cap, e, ⟨⟨by omega, by rw [World.size_alloc]; omega, by omega, h3, fun i wd hi => h4 _ ga i wd hi, hw1.good, hok, hT1, by omega⟩, by show 0 < ws.length; omega, ?_⟩⟩
      have := heap_alloc_new w1 (.cells #[.slice (some ⟨b, 0, none⟩) ws.length cap, .int .i64 0, .int .i64 0, .int .i64 0] 34)
      simpa [RBk] using this
    have PR : Hid (∀ (rb wb wc : Nat) (y : World), RSt rb wb wc ws ⟨0, 0, 0, 0⟩ y → Calls Tryd.prog 8 #[.pointer (some ⟨rb, 0, none⟩)] y (NTo rb wb wc ws (progP ws ⟨0, 0, 0, 0⟩) y)) := hide fun rb wb wc y h => prog_ok hok _ rfl h
    unfold parseP
    dsimp only
    generalize progP ws ⟨0, 0, 0, 0⟩ = r at *
    have FIN : Hid (∀ w1, G (w.alloc (.cells zBox 25)) w1 → ∀ o w2 w3 ao n c wb wc, w2 = w1.alloc o → OwK w3 w2.heap.size (.slice ao n c) r.1.ks → RSt w1.heap.size wb wc ws r.2 w3 → Gt w1.heap.size w2 w3 → ∀ w4, w4 = w3.alloc (.cells #[.string ⟨r.1.k.toArray⟩, .string ⟨r.1.x.toArray⟩, .int .i64 r.1.a, .slice ao n c] 25) → (w4.cell? ⟨w1.heap.size, 2, none⟩ = some (.int .i64 r.2.a) ∧ w4.cell? ⟨w1.heap.size, 3, none⟩ = some (.int .i64 r.2.e) ∧ ¬ w1.heap.size = w.heap.size) ∧ (∃ u0 u1 u2 u3, w4.cell? ⟨w.heap.size, 0, none⟩ = some u0 ∧ w4.cell? ⟨w.heap.size, 1, none⟩ = some u1 ∧ w4.cell? ⟨w.heap.size, 2, none⟩ = some u2 ∧ w4.cell? ⟨w.heap.size, 3, none⟩ = some u3) ∧ (w4.frozen? ⟨w.heap.size, 0, none⟩ = false ∧ w4.frozen? ⟨w.heap.size, 1, none⟩ = false ∧ w4.frozen? ⟨w.heap.size, 2, none⟩ = false ∧ w4.frozen? ⟨w.heap.size, 3, none⟩ = false) ∧
        Hid (∀ (k x : List UInt8) (a : Int) (kv : Value), G w (put4 w4 w.heap.size k x a kv) ∧ ((put4 w4 w.heap.size k x a kv).cell? ⟨w.heap.size, 0, none⟩ = some (.string ⟨k.toArray⟩) ∧ (put4 w4 w.heap.size k x a kv).cell? ⟨w.heap.size, 1, none⟩ = some (.string ⟨x.toArray⟩) ∧ (put4 w4 w.heap.size k x a kv).cell? ⟨w.heap.size, 2, none⟩ = some (.int .i64 a) ∧ (put4 w4 w.heap.size k x a kv).cell? ⟨w.heap.size, 3, none⟩ = some kv) ∧ OwK (put4 w4 w.heap.size k x a kv) w.heap.size (.slice ao n c) r.1.ks)) := hide fun w1 g o w2 w3 ao n c wb wc e2 ho hs hg w4 e4 => by
      subst e2
      subst e4
      have ga := G.alloc w1 o
      have gb := G.alloc w3 (.cells #[.string ⟨r.1.k.toArray⟩, .string ⟨r.1.x.toArray⟩, .int .i64 r.1.a, .slice ao n c] 25)
      have hz := g.size
      rw [World.size_alloc] at hz
      have hz2 := ga.size
      have nb : ¬ w.heap.size = w1.heap.size := by omega
      have b := ((((BoxT.zero w).g g).g ga).keep hg nb).g gb
      obtain ⟨c0, c1, c2, c3⟩ := b.c
      refine ⟨⟨(hs.b.g gb).c.2.2.1, (hs.b.g gb).c.2.2.2, fun e => nb e.symm⟩, ⟨_, _, _, _, c0, c1, c2, c3⟩, b.ff, hide fun k x a kv => ?_⟩
      have gp := gs_put w.heap.size k x a kv (w3.alloc (.cells #[.string ⟨r.1.k.toArray⟩, .string ⟨r.1.x.toArray⟩, .int .i64 r.1.a, .slice ao n c] 25))
      have g1 := (gz.trans g).trans ga
      refine ⟨⟨gp.os.trans (gb.os.trans (hg.os.trans g1.os)), gp.tape.trans (gb.tape.trans (hg.tape.trans g1.tape)), gp.output.trans (gb.output.trans (hg.output.trans g1.output)), Nat.le_trans g1.size (Nat.le_trans hg.size (Nat.le_trans gb.size gp.size)), fun k hk => ?_⟩, b.put.c, OwA.mono (OwA.keep (OwA.g ho gb) gp.size (fun q (q1 : (w1.alloc o).heap.size ≤ q) q2 => gp.block q q2 (by show ¬ q = w.heap.size; omega))) (by omega)⟩
      have k1 := g1.size
      have k2 := hg.size
      have k3 := gb.size
      exact (gp.block k (by omega) (by show ¬ k = w.heap.size; omega)).trans ((gb.block k (by omega)).trans ((hg.block k (by omega) (by show ¬ k = w1.heap.size; omega)).trans (g1.block k hk)))
    obtain ⟨res, hres⟩ : ∃ res : Tt × Int × Int, res = (if r.2.e = 0 then (r.1, 0, 0) else (.mk [] [] 0 [], r.2.a, r.2.e)) := ⟨_, rfl⟩
    rw [← hres]
    replace hres := hide hres
    clear hE hT hl gz hgood hw1 hw2 hok hne hn1
    go_enter Tryd.func6, Tryd.ntmps6
    go_wp2_with fail
    refine (unhide LX).mono ?_
    rintro e w1 hc
    obtain ⟨v, rfl, g, hv⟩ : ∃ v, e = .returned (.tuple #[v, .int .i64 0, .int .i64 0]) ∧ G (w.alloc (.cells zBox 25)) w1 ∧ OwW 41 w1 (w.alloc (.cells zBox 25)).heap.size v ws := by
      obtain ⟨g, hc⟩ := hc
      rcases hc with ⟨o', e1, e2⟩ | ⟨_, v, e2, e3⟩
      · cases e1
      · exact ⟨v, e2, g, e3⟩
    obtain ⟨wb, cap, rfl, hst⟩ := unhide ST w1 v g hv
    have F1 := hide (unhide FIN w1 g)
    have P1 := hide (unhide PR _ _ _ _ hst)
    clear ST FIN PR LX hc g hv hst
    go_wp2_with fail
    refine (unhide P1).mono ?_
    rintro e w3 hn
    obtain ⟨ao, n, c, rfl, ho, hs, hg⟩ := hn.open
    obtain ⟨⟨a2, a3, hne⟩, ⟨u0, u1, u2, u3, q0, q1, q2, q3⟩, ⟨z0, z1, z2, z3⟩, K⟩ := unhide F1 _ _ w3 ao n c _ _ rfl ho hs hg _ rfl
    clear F1 P1 hn ho hs hg
    replace hne := hide hne
    by_cases he : r.2.e = 0
    · replace hres := unhide hres
      rw [if_pos he] at hres
      subst hres
      rw [he] at a3
      have K1 := hide (unhide K r.1.k r.1.x r.1.a (.slice ao n c))
      clear K
      go_wp2_with fail
      obtain ⟨K2, ⟨d0, d1, d2, d3⟩, K3⟩ := unhide K1
      refine bodyPost_ret (by simp [results, Tryd.results6, go_sem, d0, d1, d2, d3]; try rfl) rfl ?_
      exact ⟨K2, _, _, _, rfl, K3⟩
    · replace hres := unhide hres
      rw [if_neg he] at hres
      subst hres
      have he' : ¬ r.2.e = 0 := he
      have x2 := (gs_put w.heap.size [] [] 0 (.slice none 0 0) _).cell (unhide hne) a2
      have x3 := (gs_put w.heap.size [] [] 0 (.slice none 0 0) _).cell (unhide hne) a3
      have K1 := hide (unhide K [] [] 0 (.slice none 0 0))
      clear K
      go_wp2_with fail
      go_region
      all_goals
        go_wp2_with fail
        obtain ⟨K2, ⟨d0, d1, d2, d3⟩, K3⟩ := unhide K1
        refine bodyPost_ret (by simp [results, Tryd.results6, go_sem, d0, d1, d2, d3]; try rfl) rfl ?_
        exact ⟨K2.drew, _, _, _, rfl, OwA.nil _ _⟩
end Go.Proofs.YtablincnlfbjnaaDoor

/- The variables that are laid, and what stage 21's laws share. -/
namespace Go.Proofs.YtablincnlfbjnaaDoor
set_option maxRecDepth 100000
open Go.RowKit Go.Maps Go.ChangeShapes Go.WideShapes Go.ChangeAt Go.Deep

theorem own : ownKnob Tryd.prog.godebug = none := by kernel_rfl
theorem laidOut : laidOutB Tryd.prog = true := by kernel_rfl
def laid9 {H : Type} : List (String × DataW H) := [("math/bits.deBruijn32tab", Rows.laid_math_bits_deBruijn32tab), ("math/bits.deBruijn64tab", Rows.laid_math_bits_deBruijn64tab), ("internal/strconv.uint64pow10", Rows.laid_internal_strconv_uint64pow10), ("strconv.ErrRange", Rows.laid_strconv_ErrRange), ("strconv.ErrSyntax", Rows.laid_strconv_ErrSyntax), ("unicode.White_Space", Rows.laid_unicode_White_Space), ("strings.asciiSpace", Rows.laid_strings_asciiSpace)]
theorem door_met (os : Os) (args : Array Value) : laidMetH Tryd.prog laid9 ((World.doorLaid Tryd.prog 400 os).forCall (fun _ _ => 0) ⟨#[], args, []⟩).memory :=
  laidMetH_of_parts3 (fuel := 8) (laidMet_of_run' 8 (by kernel_rfl) (by kernel_rfl)) (by kernel_rfl) (by kernel_rfl)
theorem ev_of_laid {W : World} (h : laidMetH Tryd.prog laid9 W) : EvAt W := by
  rw [MakeChecks.laidMetH_plain _ _ _ (by kernel_rfl)] at h
  have h4 := h.tail.tail.tail
  obtain ⟨ps, ⟨g', t', cs, fuel, p, q, hg', ht', hvar, hd, _, _⟩, _⟩ := h4
  have hg : Tryd.prog.globalNamed "strconv.ErrRange" = some 3 := by kernel_rfl
  have hty : (Tryd.prog.globals[3]?).map (·.type) = some 59 := by kernel_rfl
  obtain rfl := Option.some.inj (hg.symm.trans hg')
  obtain rfl := Option.some.inj (hty.symm.trans ht')
  obtain ⟨l0⟩ := cs
  obtain ⟨_, u, v, e, _, _⟩ := iface_of_trod Tryd.underlying59 hd
  have e' : l0 = [.iface u v] := e
  subst e'
  exact ⟨.iface u v, by simpa using World.var?_cell hg hvar 0, Or.inr ⟨u, v, rfl⟩⟩
theorem sp_of_laid {W : World} (h : laidMetH Tryd.prog laid9 W) : SpAt W := by
  rw [MakeChecks.laidMetH_plain _ _ _ (by kernel_rfl)] at h
  have hg : Tryd.prog.globalNamed "strings.asciiSpace" = some 0 := by kernel_rfl
  have hi : Lib.TabIs Tryd.prog W "strings.asciiSpace" .u8 Lib.asciiSpaceTab :=
    Lib.tabIs_of_head (g := 0) (t := 64) (e := 5) (n := 256) hg (by kernel_rfl) Tryd.underlying64 Tryd.underlying5 (by kernel_rfl) (by kernel_rfl) h.tail.tail.tail.tail.tail.tail
  intro c hc
  rw [hi.cell hg c (by rw [Lib.asciiSpaceTab_length]; exact hc), Lib.asciiSpaceTab_at c hc]
end Go.Proofs.YtablincnlfbjnaaDoor

/- gantlinelaw21's awake answers true. -/
namespace Go.Proofs.YtablincnlfbjnaaDoor
set_option maxRecDepth 100000
open Go.RowKit Go.Maps Go.ChangeShapes Go.WideShapes Go.ChangeAt Go.Deep

/-- Parse at a closed text: where, and the error. -/
theorem parse_at {s : ByteArray} {w : World} (hs : s.size ≤ 16384) (hE : EvAt w) (hT : SpAt w) {a er : Int} {L : List UInt8} (hl : s.data.toList = L) (h : (textP L).2 = (a, er)) : Calls Tryd.prog 6 #[.string s] w fun e w' => G w w' ∧ ∃ (k x : List UInt8) (at0 : Int) (ao : Option Addr) (n c : Nat), e = .returned (.tuple #[.agg #[.string ⟨k.toArray⟩, .string ⟨x.toArray⟩, .int .i64 at0, .slice ao n c], .int .i64 a, .int .i64 er]) := by
  refine (parse_any s w hs hE hT).mono ?_
  rintro e w' ⟨g, ao, n, c, e1, _⟩
  rw [hl, h] at e1
  exact ⟨g, _, _, _, ao, n, c, e1⟩
theorem tx_1 : (textP [102, 117, 110, 99, 32, 109, 97, 105, 110, 40, 41, 32, 123, 32, 112, 114, 105, 110, 116, 32, 49, 32, 43, 32, 50, 59, 32, 125]).2 = (0, 0) ∧ (textP [102, 117, 110, 99, 32, 109, 97, 105, 110, 40, 41, 32, 123, 32, 112, 114, 105, 110, 116, 32, 49, 32, 43, 32, 50, 59, 32, 125]).1.k = [112, 114, 111, 103, 114, 97, 109] ∧ (textP [102, 117, 110, 99, 32, 109, 97, 105, 110, 40, 41, 32, 123, 32, 112, 114, 105, 110, 116, 32, 49, 32, 43, 32, 50, 59, 32, 125]).1.ks.map (fun t => (t.k, t.x, t.ks.length)) = [([102, 117, 110, 99], [109, 97, 105, 110], 3)] := by decide +kernel
theorem tx_2 : (textP [102, 117, 110, 99]).2 = (4, 6) := by decide +kernel
theorem map_one {α β : Type} {f : α → β} {l : List α} {b : β} (h : l.map f = [b]) : ∃ a, l = [a] ∧ f a = b := by
  cases l with
  | nil => cases h
  | cons a r =>
    cases r with
    | nil => exact ⟨a, rfl, by simpa using h⟩
    | cons c r => simp at h
set_option maxHeartbeats 4000000 in
theorem awake_any (w : World) (hE : EvAt w) (hT : SpAt w) : Calls Tryd.prog 5 #[] w fun e w' => e = .returned (.bool true) ∧ G w w' := by
  have C1 : Hid (Calls Tryd.prog 6 #[.string ⟨#[102, 117, 110, 99, 32, 109, 97, 105, 110, 40, 41, 32, 123, 32, 112, 114, 105, 110, 116, 32, 49, 32, 43, 32, 50, 59, 32, 125]⟩] w fun e w1 => G w w1 ∧ ∃ (x : List UInt8) (at0 : Int) (g off c : Nat) (ao : Option Addr) (kc : Nat), e = .returned (.tuple #[.agg #[.string ⟨#[112, 114, 111, 103, 114, 97, 109]⟩, .string ⟨x.toArray⟩, .int .i64 at0, .slice (some ⟨g, off, none⟩) 1 c], .int .i64 0, .int .i64 0]) ∧ ∀ z, G w1 z → z.cell? ⟨g, off, none⟩ = some (.string ⟨#[102, 117, 110, 99]⟩) ∧ z.cell? ⟨g, off + 1, none⟩ = some (.string ⟨#[109, 97, 105, 110]⟩) ∧ z.cell? ⟨g, off + 3, none⟩ = some (.slice ao 3 kc)) := hide (by
    refine (parse_any ⟨#[102, 117, 110, 99, 32, 109, 97, 105, 110, 40, 41, 32, 123, 32, 112, 114, 105, 110, 116, 32, 49, 32, 43, 32, 50, 59, 32, 125]⟩ w (by decide) hE hT).mono ?_
    rintro e w1 ⟨g, ao, n, c, e1, ho⟩
    rw [show (⟨#[102, 117, 110, 99, 32, 109, 97, 105, 110, 40, 41, 32, 123, 32, 112, 114, 105, 110, 116, 32, 49, 32, 43, 32, 50, 59, 32, 125]⟩ : ByteArray).data.toList = [102, 117, 110, 99, 32, 109, 97, 105, 110, 40, 41, 32, 123, 32, 112, 114, 105, 110, 116, 32, 49, 32, 43, 32, 50, 59, 32, 125] from rfl] at e1 ho
    obtain ⟨t1, t2, t3⟩ := tx_1
    generalize textP [102, 117, 110, 99, 32, 109, 97, 105, 110, 40, 41, 32, 123, 32, 112, 114, 105, 110, 116, 32, 49, 32, 43, 32, 50, 59, 32, 125] = q at *
    obtain ⟨q1, q2⟩ := q
    dsimp only at t1 t2 t3 e1 ho
    rw [t1, t2] at e1
    obtain ⟨t, et, ft⟩ := map_one t3
    have f1 := congrArg (fun p => p.1) ft
    have f2 := congrArg (fun p => p.2.1) ft
    have f3 := congrArg (fun p => p.2.2) ft
    dsimp only at f1 f2 f3
    rw [et] at ho
    have hr := ho.row
    generalize hv : Value.slice ao n c = v at hr
    have hlen := hr
    cases hr with
    | row _ g0 off c0 kv hg hS hc hr =>
      cases hv
      obtain ⟨ko, kc, ke⟩ := (hr 0 t rfl).sl
      have h0 := hc 0 t rfl 0 _ rfl
      have h1 := hc 0 t rfl 1 _ rfl
      have h3 := hc 0 t rfl 3 _ rfl
      rw [ke, f3] at h3
      rw [f1] at h0
      rw [f2] at h1
      exact ⟨g, q1.x, q1.a, g0, off, c, ko, kc, e1, fun z gz => ⟨gz.cell (by simpa [ndT] using h0), gz.cell (by simpa [ndT] using h1), gz.cell (by simpa [ndT] using h3)⟩⟩)
  have C2 : Hid (∀ w1, G w w1 → Calls Tryd.prog 6 #[.string ⟨#[102, 117, 110, 99]⟩] w1 fun e w2 => G w1 w2 ∧ ∃ (k x : List UInt8) (at0 : Int) (ao : Option Addr) (n c : Nat), e = .returned (.tuple #[.agg #[.string ⟨k.toArray⟩, .string ⟨x.toArray⟩, .int .i64 at0, .slice ao n c], .int .i64 4, .int .i64 6])) := hide fun w1 g => parse_at (by decide) (hE.g g) (hT.g g) rfl tx_2
  clear hE hT
  go_enter Tryd.func5, Tryd.ntmps5
  go_wp2_with fail
  refine (unhide C1).mono ?_
  rintro e w1 ⟨g1, x, at0, g, off, c, ao, kc, rfl, hc⟩
  have ga := G.alloc w1 (.cells #[.string ⟨#[112, 114, 111, 103, 114, 97, 109]⟩, .string ⟨x.toArray⟩, .int .i64 at0, .slice (some ⟨g, off, none⟩) 1 c] 25)
  have C2' := hide (unhide C2 _ (g1.trans ga))
  have FC : Hid (∀ z, G (w1.alloc (.cells #[.string ⟨#[112, 114, 111, 103, 114, 97, 109]⟩, .string ⟨x.toArray⟩, .int .i64 at0, .slice (some ⟨g, off, none⟩) 1 c] 25)) z → ∀ o, G w (z.alloc o) ∧ (((z.alloc o).cell? ⟨w1.heap.size, 0, none⟩ = some (.string ⟨#[112, 114, 111, 103, 114, 97, 109]⟩) ∧ (z.alloc o).cell? ⟨w1.heap.size, 3, none⟩ = some (.slice (some ⟨g, off, none⟩) 1 c)) ∧ (z.alloc o).cell? ⟨g, off, none⟩ = some (.string ⟨#[102, 117, 110, 99]⟩) ∧ (z.alloc o).cell? ⟨g, off + 1, none⟩ = some (.string ⟨#[109, 97, 105, 110]⟩) ∧ (z.alloc o).cell? ⟨g, off + 3, none⟩ = some (.slice ao 3 kc))) := hide fun z gz o => by
    have b := ((BoxT.new w1 [112, 114, 111, 103, 114, 97, 109] x at0 (.slice (some ⟨g, off, none⟩) 1 c)).g gz).g (G.alloc z o)
    exact ⟨((g1.trans ga).trans gz).more o, ⟨b.c.1, b.c.2.2.2⟩, hc _ ((ga.trans gz).more o)⟩
  clear C1 C2 g1 hc ga
  go_wp2_with fail
  refine (unhide C2').mono ?_
  rintro e w2 ⟨g2, k2, x2, a2, ao2, n2, c2, rfl⟩
  obtain ⟨gf, ⟨b0, b3⟩, d0, d1, d3⟩ := unhide FC w2 g2 (.cells #[.string ⟨k2.toArray⟩, .string ⟨x2.toArray⟩, .int .i64 a2, .slice ao2 n2 c2] 25)
  replace gf := hide gf
  clear FC C2' g2
  go_wp2_with fail
  go_ret
  exact ⟨rfl, unhide gf⟩
end Go.Proofs.YtablincnlfbjnaaDoor
