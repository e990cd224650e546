/- Rows of words in memory. -/
import Derived.Test.YtablincnlfbjnabDoorLexSign
import Derived.Deep.DeepCutAuto
namespace Go.Proofs.YtablincnlfbjnabDoor
set_option maxRecDepth 100000
open Go.RowKit Go.Maps Go.ChangeShapes Go.WideShapes Go.ChangeAt

theorem gap_idem (l : List UInt8) : gap (l.drop (gap l)) = 0 := by
  induction hn : l.length using Nat.strongRecOn generalizing l with
  | _ n ih =>
    subst hn
    cases l with
    | nil => rw [gap_nil]; exact gap_nil
    | cons c r =>
      by_cases h : blankN c.toNat = true
      · rw [gap_blank h, List.drop_succ_cons]
        exact ih r.length (by simp) r rfl
      · by_cases g : c = 47 ∧ r.head? = some 47
        · obtain ⟨rfl, g2⟩ := g
          have h2 : 0 < leadW lineN (47 :: r) := by
            have : leadW lineN (47 :: r) = leadW lineN r + 1 := rfl
            omega
          have h3 := leadW_le lineN (47 :: r)
          have := ih ((47 :: r).drop (leadW lineN (47 :: r))).length (by rw [List.length_drop]; omega) _ rfl
          rw [List.drop_drop] at this
          rw [gap_remark g2, Nat.add_comm]
          exact this
        · rw [gap_none (by simpa using h) g, List.drop_zero]
          exact gap_none (by simpa using h) g
theorem signN_le (l : List UInt8) : signN l ≤ l.length := by
  unfold signN signM
  cases ht : twoP l
  · cases hh : headP l
    · simp
    · cases l with
      | nil => simp [headP] at hh
      | cons c r => simp
  · simp only [twoP, Bool.and_eq_true, decide_eq_true_eq] at ht
    simpa using ht.1
theorem nameW_le (x : List UInt8) : (nameW x).2 ≤ x.length := by
  unfold nameW
  split
  · exact Nat.zero_le _
  · split <;> exact Nat.le_refl _
theorem numW_le (x : List UInt8) : (numW x).2 ≤ x.length := by
  unfold numW
  split
  · exact Nat.le_refl _
  · exact Nat.zero_le _
theorem firstW_le (l : List UInt8) : (firstW l).2 ≤ l.length := by
  cases l with
  | nil => exact Nat.zero_le _
  | cons c r =>
    unfold firstW
    dsimp only
    split
    · have := nameW_le ((c :: r).take (leadW nmN (c :: r)))
      rw [List.length_take] at this
      omega
    · split
      · have := numW_le ((c :: r).take (leadW digN (c :: r)))
        rw [List.length_take] at this
        omega
      · exact signN_le _

/-- A word's cells. -/
def wcs (a : Wd) : List Value := [.int .i64 (a.k : Nat), .string ⟨a.x.toArray⟩, .int .i64 (a.o : Nat)]
/-- A row of words of the call's own. -/
def OwW (ty : Nat) (w : World) (B : Nat) (v : Value) (ws : List Wd) : Prop := w.ownsRow B ty 3 v ws.length (ws.flatMap wcs)
theorem own_kept {w w' : World} {B ty sz : Nat} {v : Value} {n : Nat} {xs : List Value} (h : w.ownsRow B ty sz v n xs) (e : ∀ b, B ≤ b → b < w.heap.size → w'.heap[b]? = w.heap[b]?) : w'.ownsRow B ty sz v n xs := by
  refine ⟨h.1, ?_⟩
  rcases h.2 with h0 | ⟨g, cap, cur, h1, h2, h3, h4⟩
  · exact Or.inl h0
  · have hlt : g < w.heap.size := by
      rcases Nat.lt_or_ge g w.heap.size with hh | hh
      · exact hh
      · rw [Array.getElem?_eq_none hh] at h3; cases h3
    exact Or.inr ⟨g, cap, cur, h1, h2, (e g h2 hlt).trans h3, h4⟩
theorem own_blk {w : World} {B ty sz : Nat} {v : Value} {n : Nat} {xs : List Value} (h : w.ownsRow B ty sz v n xs) : ∀ q, v.ownBlock = some q → B ≤ q := by
  intro q hq
  rcases h.2 with ⟨rfl, _⟩ | ⟨g, cap, cur, rfl, h2, _⟩
  · cases hq
  · cases hq; exact h2
theorem OwW.g {ty : Nat} {w w' : World} {B : Nat} {v : Value} {ws : List Wd} (h : OwW ty w B v ws) (g : G w w') : OwW ty w' B v ws := own_kept h (fun b _ hb => Below.block g b hb)
theorem OwW.nil (ty : Nat) (w : World) (B : Nat) : OwW ty w B (.slice none 0 0) [] := ⟨rfl, Or.inl ⟨rfl, rfl⟩⟩
theorem info_word : (Tryd.prog.info? 45).map (fun i => (i.zero, i.size, i.bytes)) = some (some (.agg #[.int .i64 0, .string ⟨#[]⟩, .int .i64 0]), 3, 32) := by kernel_rfl
/-- One more word. -/
theorem own_word {t ty : Nat} {i : TypeInfo} (ht : Tryd.prog.underlying t = some (.slice ty)) (hi : Tryd.prog.info? ty = some i) (hz : i.zero = some (.agg #[.int .i64 0, .string ⟨#[]⟩, .int .i64 0])) (hsz : i.size = 3) (hby : i.bytes = 32)
    {w : World} {B : Nat} {v : Value} {ws : List Wd} (h : OwW ty w B v ws) (hB : B ≤ w.heap.size) (hn : ws.length ≤ 1000000) (k n : Nat) (s : ByteArray) (x : List UInt8) (hs : s = ⟨x.toArray⟩) :
    ∃ v' w', (Builtin.append_ #[t, t] t #[v, .slice (some ⟨w.heap.size, 0, none⟩) 1 1]).run Tryd.prog (w.alloc (.cells #[.int .i64 (k : Int), .string s, .int .i64 (n : Int)] ty)) = .ok v' w' ∧ OwW ty w' B v' (ws ++ [⟨k, x, n⟩]) ∧ Below B w w' := by
  subst hs
  have ga : G w (w.alloc (.cells #[.int .i64 (k : Int), .string ⟨x.toArray⟩, .int .i64 (n : Int)] ty)) := (Below.refl _ w).alloc (Nat.le_refl _) _
  have h2 := h.g ga
  obtain ⟨v', w', hrun, r1, r2, _, r4⟩ := run_append_own_at (P := Tryd.prog) (w.alloc (.cells #[.int .i64 (k : Int), .string ⟨x.toArray⟩, .int .i64 (n : Int)] ty)) B t t ty i _ 3 32 ht hi hz hsz hby rfl (by decide) v ws.length _ h2 ⟨w.heap.size, 0, none⟩ 1 1 (wcs ⟨k, x, n⟩) rfl
    (fun j u hj => by
      have hg := heap_alloc_new w (.cells #[.int .i64 (k : Int), .string ⟨x.toArray⟩, .int .i64 (n : Int)] ty)
      rw [Addr.add_lit]
      match j, hj with
      | 0, hj => simp [wcs] at hj; subst hj; exact (cell_of_row _ _ _ _ _ _ hg).trans rfl
      | 1, hj => simp [wcs] at hj; subst hj; exact (cell_of_row _ _ _ _ _ _ hg).trans rfl
      | 2, hj => simp [wcs] at hj; subst hj; exact (cell_of_row _ _ _ _ _ _ hg).trans rfl
      | j + 3, hj => simp [wcs] at hj)
    (fun u hu => by simp [wcs] at hu; rcases hu with rfl | rfl | rfl <;> rfl) (by unfold maxLen; omega) (by omega) (Nat.le_trans hB ga.size)
  have hbo := own_blk h2
  refine ⟨v', w', hrun, ?_, Below.grown (ga.mono hB) r2 (Nat.le_trans hB ga.size) (fun q hq => hbo q hq)⟩
  show w'.ownsRow B ty 3 v' (ws ++ [_]).length ((ws ++ [_]).flatMap wcs)
  rw [List.length_append, List.flatMap_append]
  simpa using r1

theorem wpl_run {ops : Array Oper} {rest : List Oper} {o : Oper} {a : Act} {w : World} {Q : Exit → Act → World → Prop} (hgd : o.guard = none) (s x : Operand) (t : TypeId) (ho : o.op = .call { callee := .builtin .append, args := #[s, x], argTypes := #[t, t] })
    (vs vx : Value) (hs : a.eval s = vs) (hx : a.eval x = vx) (v' : Value) (w' : World) (hrun : (Builtin.append_ #[t, t] o.type #[vs, vx]).run Tryd.prog w = .ok v' w') (h : wpList Tryd.prog ops Q rest (a.put o.dst v') w') : wpList Tryd.prog ops Q (o :: rest) a w := by
  refine wpList_plain hgd fun K hK => ?_
  unfold Oper.wp execOp
  simp only [ho, resolve, invoke, builtin, Sem.run_bind, Sem.run_pure, Result.andThen_ok, List.map_toArray, List.map_cons, List.map_nil, hs, hx, hrun]
  exact hK _ _ h
end Go.Proofs.YtablincnlfbjnabDoor
