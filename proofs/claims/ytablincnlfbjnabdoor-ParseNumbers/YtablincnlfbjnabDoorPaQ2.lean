/- The program's parser, plain: each call goes on (laid by py/paq2.py). -/
import Derived.Test.YtablincnlfbjnabDoorPaQ
namespace Go.Proofs.YtablincnlfbjnabDoor
set_option maxRecDepth 100000
open Go.RowKit

theorem none_le {ws : List Wd} {R : Nt → PS → Tt × PS} (hR : ∀ n s, s.k < ws.length → Le ws s (R n s).2) {s : PS} (h : s.k < ws.length) : Le ws s (noneP ws R s).2 := row_le hR _ _ _ h
theorem fn_lt {ws : List Wd} {R : Nt → PS → Tt × PS} (hw : WsOk ws) (hR : ∀ n s, s.k < ws.length → Le ws s (R n s).2) {s : PS} (h : s.k < ws.length) : Lt ws s (fnP ws R s).2 := by
  have h1 := row_lt hw hR [102, 110] (.word [102, 117, 110, 99]) [.word [40]] (by decide) [] h
  have h2 := list_le (hR .type) h1.le.l
  have h3 := need_lt hw h2.l (t := [41]) (by decide)
  have h4 := hR .typeOr _ h3.le.l
  exact h1.thn ((h2.trans h3.le).trans h4)
theorem typIt_lt {ws : List Wd} {R : Nt → PS → Tt × PS} (hw : WsOk ws) (hR : ∀ n s, s.k < ws.length → Le ws s (R n s).2) {s : PS} (h : s.k < ws.length) : Lt ws s (typItP ws R s).2 := by
  unfold typItP
  split
  · exact row_lt hw hR _ _ _ (by decide) _ h
  split
  · exact row_lt hw hR _ _ _ (by decide) _ h
  split
  · exact row_lt hw hR _ _ _ (by decide) _ h
  split
  · exact row_lt hw hR _ _ _ (by decide) _ h
  split
  · exact fn_lt hw hR h
  · exact row_lt hw hR _ _ _ (by rfl) _ h
theorem typ_lt {ws : List Wd} {R : Nt → PS → Tt × PS} (hw : WsOk ws) (hR : ∀ n s, s.k < ws.length → Le ws s (R n s).2) {s : PS} (h : s.k < ws.length) : Lt ws s (typP ws R s).2 := deeper_lt (typIt_lt hw hR (s := pUp s) h)
theorem typeOr_le {ws : List Wd} {R : Nt → PS → Tt × PS} (hw : WsOk ws) (hR : ∀ n s, s.k < ws.length → Le ws s (R n s).2) {s : PS} (h : s.k < ws.length) : Le ws s (typeOrP ws R s).2 := by
  unfold typeOrP typeOrR
  have h1 := (typ_lt hw hR h).le
  repeat' split
  all_goals first | exact h1 | exact none_le hR h
theorem tab1_le {ws : List Wd} {R : Nt → PS → Tt × PS} (hw : WsOk ws) (hR : ∀ n s, s.k < ws.length → Le ws s (R n s).2) : ∀ n s, s.k < ws.length → Le ws s (tab1 ws R n s).2 := fun n s h => by
  cases n <;> first | exact (typ_lt hw hR h).le | exact hR _ s h
theorem param_lt {ws : List Wd} {R : Nt → PS → Tt × PS} (hw : WsOk ws) (hR : ∀ n s, s.k < ws.length → Le ws s (R n s).2) {s : PS} (h : s.k < ws.length) : Lt ws s (paramP ws R s).2 := row_lt hw (tab1_le hw hR) _ _ _ (by rfl) _ h
theorem params_le {ws : List Wd} {R : Nt → PS → Tt × PS} (hw : WsOk ws) (hR : ∀ n s, s.k < ws.length → Le ws s (R n s).2) {s : PS} (h : s.k < ws.length) : Le ws s (paramsP ws R s).2 := by
  have h1 := row_le hR [112, 97, 114, 97, 109, 115] [] [] h
  have h2 := list_le (f := paramP ws R) (fun s h => (param_lt hw hR h).le) h1.l
  exact h1.trans h2
theorem blockIt_lt {ws : List Wd} {R : Nt → PS → Tt × PS} (hw : WsOk ws) (hR : ∀ n s, s.k < ws.length → Le ws s (R n s).2) {s : PS} (h : s.k < ws.length) : Lt ws s (blockItP ws R s).2 := by
  have h1 := row_lt hw hR [98, 108, 111, 99, 107] (.word [123]) [] (by decide) [] h
  exact h1.thn (until_le (hR .stmt) _ _ h1.le.l)
theorem block_lt {ws : List Wd} {R : Nt → PS → Tt × PS} (hw : WsOk ws) (hR : ∀ n s, s.k < ws.length → Le ws s (R n s).2) {s : PS} (h : s.k < ws.length) : Lt ws s (blockP ws R s).2 := deeper_lt (blockIt_lt hw hR (s := pUp s) h)
theorem prim_lt {ws : List Wd} {R : Nt → PS → Tt × PS} (hw : WsOk ws) (hR : ∀ n s, s.k < ws.length → Le ws s (R n s).2) {s : PS} (h : s.k < ws.length) : Lt ws s (primP ws R s).2 := by
  unfold primP
  split
  · exact row_lt hw hR _ _ _ (by rfl) _ h
  split
  · exact row_lt hw hR _ _ _ (by decide) _ h
  split
  · exact row_lt hw hR _ _ _ (by decide) _ h
  split
  · exact row_lt hw hR _ _ _ (by decide) _ h
  split
  · exact row_lt hw hR _ _ _ (by decide) _ h
  split
  · exact row_lt hw hR _ _ _ (by decide) _ h
  split
  · exact row_lt hw hR _ _ _ (by decide) _ h
  split
  · exact row_lt hw hR _ _ _ (by decide) _ h
  split
  · exact row_lt hw hR _ _ _ (by decide) _ h
  split
  · rename_i hx
    have h1 := pass_lt (x_more hw h (t := [40]) (by decide) hx)
    have h2 := hR .inside _ h1.le.l
    exact h1.thn (h2.trans (need_lt hw h2.l (t := [41]) (by decide)).le)
  · exact row_lt hw hR _ _ _ (by rfl) _ h
theorem post_rounds {ws : List Wd} {R : Nt → PS → Tt × PS} (hR : ∀ n s, s.k < ws.length → Le ws s (R n s).2) : ∀ (n : Nat) (r : Tt × PS), r.2.k < ws.length → Le ws r.2 (pPost ws R n r).2 := fun n => by
  induction n with
  | zero => intro r h; exact Le.refl h
  | succ n ih =>
    intro r h
    rw [pPost]
    split
    · have h1 := row_le (s := r.2) hR [99, 97, 108, 108] [.word [40], .args, .word [41]] [r.1] h
      exact h1.trans (ih _ h1.l)
    split
    · have h1 := row_le (s := r.2) hR [105, 110, 100, 101, 120] [.word [91], .part .inside, .word [93]] [r.1] h
      exact h1.trans (ih _ h1.l)
    split
    · have h1 := row_le (s := r.2) hR [100, 111, 116] [.word [46], .name] [r.1] h
      exact h1.trans (ih _ h1.l)
    · exact Le.refl h
theorem post_lt {ws : List Wd} {R : Nt → PS → Tt × PS} (hw : WsOk ws) (hR : ∀ n s, s.k < ws.length → Le ws s (R n s).2) {s : PS} (h : s.k < ws.length) : Lt ws s (postP ws R s).2 := by
  have h1 := prim_lt hw hR h
  exact h1.thn (post_rounds hR _ _ h1.le.l)
theorem unary_lt {ws : List Wd} {R : Nt → PS → Tt × PS} (hw : WsOk ws) (hR : ∀ n s, s.k < ws.length → Le ws s (R n s).2) {s : PS} (h : s.k < ws.length) : Lt ws s (unaryP ws R s).2 := by
  unfold unaryP
  split
  · rename_i hi
    have h1 := row_sign (s := pUp s) hR [117, 110, 97, 114, 121] [.part .unary] [] (is_more hw h (t := [45]) (by decide) hi)
    exact deeper_lt ⟨h1.2, fun _ => h1.1⟩
  split
  · rename_i hi
    have h1 := row_sign (s := pUp s) hR [117, 110, 97, 114, 121] [.part .unary] [] (is_more hw h (t := [33]) (by decide) hi)
    exact deeper_lt ⟨h1.2, fun _ => h1.1⟩
  · exact post_lt hw hR h
theorem bin_rounds {ws : List Wd} {R : Nt → PS → Tt × PS} (hR : ∀ n s, s.k < ws.length → Le ws s (R n s).2) (row : Nat) {B : PS → Tt × PS} (hB : ∀ s, s.k < ws.length → Le ws s (B s).2) : ∀ (n : Nat) (r : Tt × PS), r.2.k < ws.length → Le ws r.2 (pBin ws R row B n r).2 := fun n => by
  induction n with
  | zero => intro r h; exact Le.refl h
  | succ n ih =>
    intro r h
    rw [pBin]
    split
    · have h1 := row_le (s := r.2) hR [98, 105, 110, 97, 114, 121] [.sign] [r.1] h
      have h2 := hB _ h1.l
      dsimp only
      split
      · exact h1.trans h2
      · exact (h1.trans h2).trans (ih (Tt.mk (pRow ws R [98, 105, 110, 97, 114, 121] [.sign] [r.1] r.2).1.k (pRow ws R [98, 105, 110, 97, 114, 121] [.sign] [r.1] r.2).1.x (pRow ws R [98, 105, 110, 97, 114, 121] [.sign] [r.1] r.2).1.a ((pRow ws R [98, 105, 110, 97, 114, 121] [.sign] [r.1] r.2).1.ks ++ [(B (pRow ws R [98, 105, 110, 97, 114, 121] [.sign] [r.1] r.2).2).1]), (B (pRow ws R [98, 105, 110, 97, 114, 121] [.sign] [r.1] r.2).2).2) h2.l)
    · exact Le.refl h
theorem bin_lt {ws : List Wd} {R : Nt → PS → Tt × PS} (hw : WsOk ws) (hR : ∀ n s, s.k < ws.length → Le ws s (R n s).2) : ∀ (j : Nat) (s : PS), s.k < ws.length → Lt ws s (binP ws R j s).2 := fun j => by
  induction j with
  | zero => intro s h; exact unary_lt hw hR h
  | succ j ih => intro s h; exact (ih s h).thn (bin_rounds hR _ (fun s h => (ih s h).le) _ _ (ih s h).le.l)
theorem expr_lt {ws : List Wd} {R : Nt → PS → Tt × PS} (hw : WsOk ws) (hR : ∀ n s, s.k < ws.length → Le ws s (R n s).2) {s : PS} (h : s.k < ws.length) : Lt ws s (exprP ws R s).2 := bin_lt hw hR 5 s h
theorem inside_lt {ws : List Wd} {R : Nt → PS → Tt × PS} (hw : WsOk ws) (hR : ∀ n s, s.k < ws.length → Le ws s (R n s).2) {s : PS} (h : s.k < ws.length) : Lt ws s (insideP ws R s).2 := deeper_lt (expr_lt hw hR (s := pUp s) h)
theorem exprOr_le {ws : List Wd} {R : Nt → PS → Tt × PS} (hw : WsOk ws) (hR : ∀ n s, s.k < ws.length → Le ws s (R n s).2) {s : PS} (h : s.k < ws.length) : Le ws s (exprOrP ws R s).2 := by
  unfold exprOrP
  split
  · exact none_le hR h
  · exact (expr_lt hw hR h).le
theorem call_lt {ws : List Wd} {R : Nt → PS → Tt × PS} (hw : WsOk ws) (hR : ∀ n s, s.k < ws.length → Le ws s (R n s).2) {s : PS} (h : s.k < ws.length) : Lt ws s (callP ws R s).2 := by
  have h1 := expr_lt hw hR h
  unfold callP
  dsimp only
  split
  · exact h1
  · exact h1.thn (fault_lt h1.le.l 6 (by decide)).le
theorem tab2_le {ws : List Wd} {R : Nt → PS → Tt × PS} (hw : WsOk ws) (hR : ∀ n s, s.k < ws.length → Le ws s (R n s).2) : ∀ n s, s.k < ws.length → Le ws s (tab2 ws R n s).2 := fun n s h => by
  cases n with
  | type => exact (typ_lt hw hR h).le
  | typeOr => exact typeOr_le hw hR h
  | params => exact params_le hw hR h
  | block => exact (block_lt hw hR h).le
  | expr => exact (expr_lt hw hR h).le
  | inside => exact (inside_lt hw hR h).le
  | elseOr => exact hR _ s h
  | exprOr => exact hR _ s h
  | call => exact hR _ s h
  | unary => exact hR _ s h
  | field => exact hR _ s h
  | stmt => exact hR _ s h
  | choice => exact hR _ s h
  | decl => exact hR _ s h
  | param => exact hR _ s h
theorem elseOr_le {ws : List Wd} {R : Nt → PS → Tt × PS} (hR : ∀ n s, s.k < ws.length → Le ws s (R n s).2) {s : PS} (h : s.k < ws.length) : Le ws s (elseOrP ws R s).2 := by
  unfold elseOrP
  split
  · have h1 := pass_le (ws := ws) h
    exact h1.trans (hR .block _ h1.l)
  · exact none_le hR h
theorem doSet_lt {ws : List Wd} {R : Nt → PS → Tt × PS} (hw : WsOk ws) (hR : ∀ n s, s.k < ws.length → Le ws s (R n s).2) {s : PS} (h : s.k < ws.length) : Lt ws s (doSetP ws R s).2 := by
  have h1 : Lt ws s (pRow ws (tab2 ws R) [100, 111] [.part .expr] [] s).2 := expr_lt hw hR h
  unfold doSetP
  dsimp only
  split
  · exact h1.thn (row_le hR _ _ _ h1.le.l)
  · exact h1.thn (need_lt hw h1.le.l (by decide)).le
theorem stmt_lt {ws : List Wd} {R : Nt → PS → Tt × PS} (hw : WsOk ws) (hR : ∀ n s, s.k < ws.length → Le ws s (R n s).2) {s : PS} (h : s.k < ws.length) : Lt ws s (stmtP ws R s).2 := by
  unfold stmtP
  by_cases h0 : (wdAt ws s).x = [123]
  · rw [if_pos h0]
    exact block_lt hw hR h
  rw [if_neg h0]
  by_cases h1 : (wdAt ws s).x = [118, 97, 114]
  · rw [if_pos h1]
    exact row_lt hw hR _ _ _ (by decide) _ h
  rw [if_neg h1]
  by_cases h2 : (wdAt ws s).x = [105, 102]
  · rw [if_pos h2]
    exact row_lt hw hR _ _ _ (by decide) _ h
  rw [if_neg h2]
  by_cases h3 : (wdAt ws s).x = [119, 104, 105, 108, 101]
  · rw [if_pos h3]
    exact row_lt hw hR _ _ _ (by decide) _ h
  rw [if_neg h3]
  by_cases h4 : (wdAt ws s).x = [114, 101, 116, 117, 114, 110]
  · rw [if_pos h4]
    exact row_lt hw hR _ _ _ (by decide) _ h
  rw [if_neg h4]
  by_cases h5 : (wdAt ws s).x = [112, 114, 105, 110, 116]
  · rw [if_pos h5]
    exact row_lt hw hR _ _ _ (by decide) _ h
  rw [if_neg h5]
  by_cases h6 : (wdAt ws s).x = [99, 108, 111, 115, 101]
  · rw [if_pos h6]
    exact row_lt hw hR _ _ _ (by decide) _ h
  rw [if_neg h6]
  by_cases h7 : (wdAt ws s).x = [103, 111]
  · rw [if_pos h7]
    exact row_lt hw hR _ _ _ (by decide) _ h
  rw [if_neg h7]
  by_cases h8 : (wdAt ws s).x = [115, 101, 110, 100]
  · rw [if_pos h8]
    exact row_lt hw hR _ _ _ (by decide) _ h
  rw [if_neg h8]
  by_cases h9 : (wdAt ws s).x = [115, 101, 108, 101, 99, 116]
  · rw [if_pos h9]
    have h1 := row_lt hw hR [115, 101, 108, 101, 99, 116] (.word [115, 101, 108, 101, 99, 116]) [.word [123]] (by decide) [] h
    exact h1.thn (until_le (hR .choice) _ _ h1.le.l)
  rw [if_neg h9]
  exact doSet_lt hw hR h
theorem sendRecv_lt {ws : List Wd} {R : Nt → PS → Tt × PS} (hw : WsOk ws) (hR : ∀ n s, s.k < ws.length → Le ws s (R n s).2) {s : PS} (h : s.k < ws.length) : Lt ws s (sendRecvP ws R s).2 := by
  unfold sendRecvP
  split
  · exact row_lt hw (tab2_le hw hR) _ _ _ (by decide) _ h
  · exact row_lt hw (tab2_le hw hR) _ _ _ (by decide) _ h
theorem choice_lt {ws : List Wd} {R : Nt → PS → Tt × PS} (hw : WsOk ws) (hR : ∀ n s, s.k < ws.length → Le ws s (R n s).2) {s : PS} (h : s.k < ws.length) : Lt ws s (choiceP ws R s).2 := by
  unfold choiceP
  split
  · exact row_lt hw hR _ _ _ (by decide) _ h
  · have h1 := need_lt hw h (t := [99, 97, 115, 101]) (by decide)
    exact h1.thn (sendRecv_lt hw hR h1.le.l).le
theorem field_lt {ws : List Wd} {R : Nt → PS → Tt × PS} (hw : WsOk ws) (hR : ∀ n s, s.k < ws.length → Le ws s (R n s).2) {s : PS} (h : s.k < ws.length) : Lt ws s (fieldP ws R s).2 := row_lt hw (tab2_le hw hR) _ _ _ (by rfl) _ h
theorem decl_lt {ws : List Wd} {R : Nt → PS → Tt × PS} (hw : WsOk ws) (hR : ∀ n s, s.k < ws.length → Le ws s (R n s).2) {s : PS} (h : s.k < ws.length) : Lt ws s (declP ws R s).2 := by
  unfold declP
  split
  · have h1 := row_lt hw hR [115, 116, 114, 117, 99, 116] (.word [115, 116, 114, 117, 99, 116]) [.name, .word [123]] (by decide) [] h
    exact h1.thn (until_le (hR .field) _ _ h1.le.l)
  split
  · exact row_lt hw hR _ _ _ (by decide) _ h
  · exact row_lt hw (tab2_le hw hR) _ _ _ (by decide) _ h
theorem lev_le {ws : List Wd} {R : Nt → PS → Tt × PS} (hw : WsOk ws) (hR : ∀ n s, s.k < ws.length → Le ws s (R n s).2) {s : PS} (h : s.k < ws.length) (n : Nt) : Le ws s (levP ws R n s).2 := by
  cases n with
  | params => exact params_le hw hR h
  | type => exact (typ_lt hw hR h).le
  | typeOr => exact typeOr_le hw hR h
  | block => exact (block_lt hw hR h).le
  | elseOr => exact elseOr_le hR h
  | expr => exact (expr_lt hw hR h).le
  | exprOr => exact exprOr_le hw hR h
  | call => exact (call_lt hw hR h).le
  | unary => exact (unary_lt hw hR h).le
  | inside => exact (inside_lt hw hR h).le
  | field => exact (field_lt hw hR h).le
  | stmt => exact (stmt_lt hw hR h).le
  | choice => exact (choice_lt hw hR h).le
  | decl => exact (decl_lt hw hR h).le
  | param => exact (param_lt hw hR h).le
theorem runP_le {ws : List Wd} (hw : WsOk ws) : ∀ (M : Nat) (n : Nt) (s : PS), s.k < ws.length → Le ws s (runP ws M n s).2 := fun M => by
  induction M with
  | zero => intro n s h; exact (fault_lt h 6 (by decide)).le
  | succ M ih => intro n s h; exact lev_le hw ih h n
/-- Parts of until's, and declarations: they read something, or are bad. -/
theorem runP_lt {ws : List Wd} (hw : WsOk ws) (M : Nat) (n : Nt) (hn : n = .stmt ∨ n = .choice ∨ n = .field ∨ n = .decl) (s : PS) (h : s.k < ws.length) : Lt ws s (runP ws M n s).2 := by
  cases M with
  | zero => exact fault_lt h 6 (by decide)
  | succ M =>
    rcases hn with rfl | rfl | rfl | rfl
    · exact stmt_lt hw (runP_le hw M) h
    · exact choice_lt hw (runP_le hw M) h
    · exact field_lt hw (runP_le hw M) h
    · exact decl_lt hw (runP_le hw M) h
end Go.Proofs.YtablincnlfbjnabDoor
