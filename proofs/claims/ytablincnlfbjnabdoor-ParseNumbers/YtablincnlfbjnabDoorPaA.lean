/- The program's parser: what the calls of the grammar lean on. -/
import Derived.Test.YtablincnlfbjnabDoorPaRw
import Derived.Test.YtablincnlfbjnabDoorPaQ2
namespace Go.Proofs.YtablincnlfbjnabDoor
set_option maxRecDepth 100000
open Go.RowKit Go.Maps Go.ChangeShapes Go.WideShapes Go.ChangeAt Go.Deep

def fdOkB : Fd → Bool
  | .part n => isPart n
  | .word t => !(t == []) && !(t == [112, 97, 114, 97, 109, 115]) && !(t == [116, 121, 112, 101]) && !(t == [91, 116, 121, 112, 101, 93]) && !(t == [98, 108, 111, 99, 107]) && !(t == [91, 101, 108, 115, 101, 93]) && !(t == [101, 120, 112, 114]) && !(t == [91, 101, 120, 112, 114, 93]) && !(t == [99, 97, 108, 108]) && !(t == [117, 110, 97, 114, 121]) && !(t == [105, 110, 115, 105, 100, 101]) && !(t == [78, 65, 77, 69]) && !(t == [78, 85, 77, 66, 69, 82]) && !(t == [83, 73, 71, 78]) && !(t == [97, 114, 103, 115])
  | _ => true
theorem fdOk_of {f : Fd} (h : fdOkB f = true) : FdOk f := by
  cases f with
  | part n => exact h
  | word t =>
    simp only [fdOkB, Bool.and_eq_true, Bool.not_eq_true'] at h
    obtain ⟨⟨⟨⟨⟨⟨⟨⟨⟨⟨⟨⟨⟨⟨h0, h1⟩, h2⟩, h3⟩, h4⟩, h5⟩, h6⟩, h7⟩, h8⟩, h9⟩, h10⟩, h11⟩, h12⟩, h13⟩, h14⟩ := h
    exact ⟨by simpa using h0, ⟨h1, h2, h3, h4, h5, h6, h7, h8, h9, h10⟩, h11, h12, h13, h14⟩
  | _ => trivial
/-- A row as it is written, and its fields. -/
def RowC (wr : ByteArray) (fs : List Fd) : Prop := Lib.fields wr.data.toList = fs.map fdStr ∧ wr.size < 100000 ∧ (∀ b ∈ wr.data.toList, b.toNat < 128) ∧ fs.length ≤ 20 ∧ fs.all fdOkB = true
section
variable {rb wb wc : Nat} {ws : List Wd} {R T : Nt → PS → Tt × PS} {M L : Nat} {s : PS} {y : World}
theorem row_any' {S : Nat → Prop} {kv0 : Value} {ks0 : List Tt} (h : RSt rb wb wc ws s y) (kd : List UInt8) {fs : List Fd} {wr : ByteArray} (rc : RowC wr fs) (hro : RowOk rb wb wc ws T fs s) (hk : OwA y S kv0 ks0) (hkl : ks0.length ≤ 1000) (hsn : ¬ S rb ∧ ¬ S wb ∧ ¬ S 0) :
    Calls Tryd.prog 13 #[.pointer (some ⟨rb, 0, none⟩), .string ⟨kd.toArray⟩, .string wr, kv0] y (RTo rb wb wc ws S (pRow ws T kd fs ks0 s) y) :=
  row_any h kd fs wr rc.1 rc.2.1 (fun _ b hb => rc.2.2.1 b (List.mem_of_getElem? hb)) rc.2.2.2.1 (fun f hf => fdOk_of (List.all_eq_true.1 rc.2.2.2.2 f hf)) hro hk hkl hsn
/-- A row without kids of its own yet. -/
theorem row_nil (h : RSt rb wb wc ws s y) (kd : List UInt8) {fs : List Fd} {wr : ByteArray} (rc : RowC wr fs) (hro : RowOk rb wb wc ws T fs s) :
    Calls Tryd.prog 13 #[.pointer (some ⟨rb, 0, none⟩), .string ⟨kd.toArray⟩, .string wr, .slice none 0 0] y (NTo rb wb wc ws (pRow ws T kd fs [] s) y) := by
  refine (row_any' (S := fun _ => False) h kd rc hro (OwA.nil _ _) (by simp) ⟨id, id, id⟩).mono ?_
  rintro e w' ⟨kv, e1, h1, h2, h3⟩
  exact ⟨kv, e1, h1.monoS (fun q _ hq => hq.resolve_left (fun x => x.1)), h2, h3.mono (fun q _ hq => hq.resolve_right id)⟩
theorem ok_of {F : Nat} {P : PS → Tt × PS} (h : s.k < ws.length → Ok rb wb wc ws F P s) : Ok rb wb wc ws F P s := fun y hs => h hs.k y hs
/-- Rows whose parts may be read from here on. -/
theorem rowOk_low (hle : ∀ n s, s.k < ws.length → Le ws s (T n s).2) : ∀ (fs : List Fd), (∀ n, Fd.part n ∈ fs → ∀ s, mu ws s < L → Ok rb wb wc ws (ntF n) (T n) s) → (Fd.args ∈ fs → ∀ s, mu ws s < L → Ok rb wb wc ws (ntF .inside) (T .inside) s) → Fd.sign ∉ fs → ∀ s, s.k < ws.length → mu ws s < L → RowOk rb wb wc ws T fs s := fun fs => by
  induction fs with
  | nil => intro _ _ _ _ _ _; trivial
  | cons f fs ih =>
    intro h1 h2 h3 s hk hm
    have hst := step_le hle f (([], []), s) hk
    refine ⟨?_, ih (fun n hn => h1 n (List.mem_cons_of_mem _ hn)) (fun ha => h2 (List.mem_cons_of_mem _ ha)) (fun hs => h3 (List.mem_cons_of_mem _ hs)) _ hst.l (by have := hst.k; unfold mu at hm ⊢; unfold fdSt; dsimp only at this; omega)⟩
    cases f with
    | sign => exact absurd (List.mem_cons_self ..) h3
    | args => exact ⟨fun s' hs' => h2 (List.mem_cons_self ..) s' (by unfold mu at hm ⊢; omega), fun s' hs' => (hle .inside s' hs').k⟩
    | part n => exact h1 n (List.mem_cons_self ..) s hm
    | name => trivial
    | number => trivial
    | word t => trivial
/-- What is known of the calls of one level less. -/
structure Lv (rb wb wc : Nat) (ws : List Wd) (R : Nt → PS → Tt × PS) (M : Nat) : Prop where
  w : WsOk ws
  le : ∀ n s, s.k < ws.length → Le ws s (R n s).2
  ok : ∀ n s, mu ws s < M → Ok rb wb wc ws (ntF n) (R n) s
  ea : ∀ n s, (n = .stmt ∨ n = .choice ∨ n = .field ∨ n = .decl) → s.k < ws.length → Lt ws s (R n s).2
theorem Lv.low (h : Lv rb wb wc ws R M) (fs : List Fd) (hs : Fd.sign ∉ fs) (s : PS) (hk : s.k < ws.length) (hm : mu ws s < M) : RowOk rb wb wc ws R fs s := rowOk_low h.le fs (fun n _ s hm => h.ok n s hm) (fun _ s hm => h.ok .inside s hm) hs s hk hm
/-- A row whose first word is there. -/
theorem Lv.word (h : Lv rb wb wc ws R M) {t : List UInt8} (fs : List Fd) (hs : Fd.sign ∉ fs) (hk : s.k < ws.length) (hm : mu ws s < M + 1) (hx : (wdAt ws s).x = t) (ht : t ≠ []) : RowOk rb wb wc ws R (.word t :: fs) s := by
  have hmore := x_more h.w hk ht hx
  have e : fdSt ws R (.word t) s = pPass ws s := by
    show pNeed ws t s = _
    unfold pNeed
    rw [if_pos (show pIs ws t s = true from decide_eq_true hx)]
  have hon := pass_on hmore
  have hle := pass_le (ws := ws) hk
  refine ⟨trivial, ?_⟩
  rw [e]
  exact h.low fs hs _ hle.l (by unfold mu at hm ⊢; omega)
theorem Lv.sign (h : Lv rb wb wc ws R M) (fs : List Fd) (hs : Fd.sign ∉ fs) (hmore : s.k + 1 < ws.length) (hm : mu ws s < M + 1) : RowOk rb wb wc ws R (.sign :: fs) s := by
  have hon := pass_on hmore
  have hle := pass_le (ws := ws) (s := s) (by omega)
  exact ⟨hmore, h.low fs hs _ hle.l (by show mu ws (pPass ws s) < M; unfold mu at hm ⊢; omega)⟩
/-- The end: a call's node is answered. -/
theorem arm_fin {r : Tt × PS} {s1 : PS} {w1 w2 : World} {e : Ending} {k0 x0 : List UInt8} {a0 : Int} {v0 : Value} (p : Pn rb wb wc ws s1 y w1) (b : BoxT y.heap.size k0 x0 a0 v0 w1) (h : NTo rb wb wc ws r w1 e w2) :
    ∃ ao n c, e = .returned (.agg #[.string ⟨r.1.k.toArray⟩, .string ⟨r.1.x.toArray⟩, .int .i64 r.1.a, .slice ao n c]) ∧ (∃ u0 u1 u2 u3, w2.cell? ⟨y.heap.size, 0, none⟩ = some u0 ∧ w2.cell? ⟨y.heap.size, 1, none⟩ = some u1 ∧ w2.cell? ⟨y.heap.size, 2, none⟩ = some u2 ∧ w2.cell? ⟨y.heap.size, 3, none⟩ = some u3) ∧ (w2.frozen? ⟨y.heap.size, 0, none⟩ = false ∧ w2.frozen? ⟨y.heap.size, 1, none⟩ = false ∧ w2.frozen? ⟨y.heap.size, 2, none⟩ = false ∧ w2.frozen? ⟨y.heap.size, 3, none⟩ = false) ∧
    Hid (NTo rb wb wc ws r y (.returned (.agg (ndT r.1.k r.1.x r.1.a (.slice ao n c)))) (put4 w2 y.heap.size r.1.k r.1.x r.1.a (.slice ao n c)) ∧ ((put4 w2 y.heap.size r.1.k r.1.x r.1.a (.slice ao n c)).cell? ⟨y.heap.size, 0, none⟩ = some (.string ⟨r.1.k.toArray⟩) ∧ (put4 w2 y.heap.size r.1.k r.1.x r.1.a (.slice ao n c)).cell? ⟨y.heap.size, 1, none⟩ = some (.string ⟨r.1.x.toArray⟩) ∧ (put4 w2 y.heap.size r.1.k r.1.x r.1.a (.slice ao n c)).cell? ⟨y.heap.size, 2, none⟩ = some (.int .i64 r.1.a) ∧ (put4 w2 y.heap.size r.1.k r.1.x r.1.a (.slice ao n c)).cell? ⟨y.heap.size, 3, none⟩ = some (.slice ao n c))) := by
  obtain ⟨ao, n, c, e1, ho, hs, hg⟩ := h.open
  have hrl := p.rl
  have hb := b.lt
  obtain ⟨q1, q2, q3⟩ := fin_any (p.to hs hg) (b.keep hg (by show ¬ y.heap.size = rb; omega)) (OwA.mono ho (by omega))
  exact ⟨ao, n, c, e1, q1, q2, q3⟩
end
end Go.Proofs.YtablincnlfbjnabDoor
