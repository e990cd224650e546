/- The program's parser: Parse. -/
import Derived.Test.YtablincnlfbjnabDoorPaC
import Derived.Test.YtablincnlfbjnabDoorLexCut
import Derived.Test.YtablincnlfbjnabDoorLexF
namespace Go.Proofs.YtablincnlfbjnabDoor
set_option maxRecDepth 100000
open Go.RowKit Go.Maps Go.ChangeShapes Go.WideShapes Go.ChangeAt Go.Deep

/-- Words as a text has them: the end, and it alone, is empty. -/
def WG : List Wd → Prop
  | [] => False
  | [e] => e.x = [] ∧ e.k = 0
  | w :: v :: r => w.x ≠ [] ∧ w.k ≠ 0 ∧ WG (v :: r)
theorem WG.last : ∀ {ws : List Wd}, WG ws → WsOk ws := fun {ws} => by
  induction ws with
  | nil => intro h; exact h.elim
  | cons a r ih =>
    intro h
    cases r with
    | nil =>
      obtain ⟨h1, h2⟩ := h
      obtain ⟨k, x, o⟩ := a
      dsimp only at h1 h2
      subst h1 h2
      exact ⟨o, rfl⟩
    | cons b r =>
      obtain ⟨o, ho⟩ := ih h.2.2
      exact ⟨o, ho⟩
theorem WG.good : ∀ {ws : List Wd}, WG ws → ∀ (i : Nat) (wd : Wd), i + 1 < ws.length → ws[i]? = some wd → wd.x ≠ [] ∧ wd.k ≠ 0 := fun {ws} => by
  induction ws with
  | nil => intro h; exact h.elim
  | cons a r ih =>
    intro h i wd hi hw
    cases r with
    | nil => simp at hi
    | cons b r =>
      match i, hw with
      | 0, hw => cases hw; exact ⟨h.1, h.2.1⟩
      | i + 1, hw => exact ih h.2.2 i wd (by simpa using hi) hw
theorem firstW_kind {l : List UInt8} (h : (firstW l).2 ≠ 0) : (firstW l).1 ≠ 0 := by
  cases l with
  | nil => exact absurd rfl h
  | cons c r =>
    unfold firstW at h ⊢
    dsimp only at h ⊢
    split
    · rename_i h1
      rw [if_pos h1] at h
      unfold nameW at h ⊢
      split
      · rename_i h2; rw [if_pos h2] at h; exact absurd rfl h
      · split
        · exact (show (2 : Nat) ≠ 0 by decide)
        · exact (show (1 : Nat) ≠ 0 by decide)
    · rename_i h1
      rw [if_neg h1] at h
      split
      · rename_i h2
        rw [if_pos h2] at h
        unfold numW at h ⊢
        split
        · exact (show (3 : Nat) ≠ 0 by decide)
        · rename_i h3; rw [if_neg h3] at h; exact absurd rfl h
      · exact (show (4 : Nat) ≠ 0 by decide)
theorem cutL_good (l : List UInt8) : ∀ o, (cutL l o).2 = none → WG (cutL l o).1 ∧ (cutL l o).1.length ≤ l.length + 1 := by
  induction hn : l.length using Nat.strongRecOn generalizing l with
  | _ n ih =>
    intro o h
    subst hn
    have hg := gap_le l
    by_cases h1 : gap l < l.length
    · by_cases h2 : (firstW (l.drop (gap l))).2 = 0
      · rw [cutL_bad h1 h2] at h; cases h
      · have h3 := cutL_word (o := o) h1 h2
        have hle := firstW_le (l.drop (gap l))
        rw [List.length_drop] at hle
        rw [h3] at h ⊢
        dsimp only at h ⊢
        obtain ⟨q1, q2⟩ := ih ((l.drop (gap l)).drop (firstW (l.drop (gap l))).2).length (by rw [List.length_drop, List.length_drop]; omega) _ rfl _ h
        have hk := firstW_kind h2
        have hx : (l.drop (gap l)).take (firstW (l.drop (gap l))).2 ≠ [] := fun e => by
          have := congrArg List.length e
          rw [List.length_take, List.length_drop] at this
          simp at this
          omega
        refine ⟨?_, ?_⟩
        · generalize cutL ((l.drop (gap l)).drop (firstW (l.drop (gap l))).2) (o + gap l + (firstW (l.drop (gap l))).2) = q at q1 ⊢
          obtain ⟨q, _⟩ := q
          cases q with
          | nil => exact q1.elim
          | cons b r => exact ⟨hx, hk, q1⟩
        · rw [List.length_drop, List.length_drop] at q2
          rw [List.length_cons]
          omega
    · rw [cutL_end (by omega)]
      exact ⟨⟨rfl, rfl⟩, by simp⟩
/-- strings' table of blanks. -/
def SpAt (w : World) : Prop := ∀ c : Nat, c < 256 → w.cell? ⟨0, c, none⟩ = some (.int .u8 (if Lib.isSp (UInt8.ofNat c) then 1 else 0))
theorem SpAt.g {w w' : World} (h : SpAt w) (g : G w w') : SpAt w' := fun c hc => g.cell (h c hc)
/-- What Parse leaves. -/
def PaTo (w : World) (r : Tt × Int × Int) (e : Ending) (w' : World) : Prop := G w w' ∧ ∃ ao n c, e = .returned (.tuple #[.agg #[.string ⟨r.1.k.toArray⟩, .string ⟨r.1.x.toArray⟩, .int .i64 r.1.a, .slice ao n c], .int .i64 r.2.1, .int .i64 r.2.2]) ∧ OwK w' w.heap.size (.slice ao n c) r.1.ks
theorem build_n0 (w : World) : (Instr.build 27 #[]).run Tryd.prog w = .ok (.agg zBox) w := by kernel_rfl
set_option maxHeartbeats 8000000 in
theorem parse_any (s : ByteArray) (w : World) (hs : s.size ≤ 16384) (hE : EvAt w) (hT : SpAt w) : Calls Tryd.prog 7 #[.string s] w (PaTo w (textP s.data.toList)) := by
  have hl : s.data.toList.length = s.size := (Lib.size_eq s).symm
  have gz := G.alloc w (.cells zBox 27)
  have LX := hide (lexcut_any s _ hs (hE.g gz))
  have bn0 := build_n0
  have hgl : 0 < w.heap.size := World.block_lt_of_cell? w _ (hT 0 (by omega))
  unfold textP
  have hgood := cutL_good s.data.toList 0
  generalize cutL s.data.toList 0 = q at *
  obtain ⟨ws, oe⟩ := q
  cases oe with
  | some o =>
    dsimp only
    have K : Hid (∀ w1, G (w.alloc (.cells zBox 27)) w1 → (∃ u0 u1 u2 u3, w1.cell? ⟨w.heap.size, 0, none⟩ = some u0 ∧ w1.cell? ⟨w.heap.size, 1, none⟩ = some u1 ∧ w1.cell? ⟨w.heap.size, 2, none⟩ = some u2 ∧ w1.cell? ⟨w.heap.size, 3, none⟩ = some u3) ∧ (w1.frozen? ⟨w.heap.size, 0, none⟩ = false ∧ w1.frozen? ⟨w.heap.size, 1, none⟩ = false ∧ w1.frozen? ⟨w.heap.size, 2, none⟩ = false ∧ w1.frozen? ⟨w.heap.size, 3, none⟩ = false) ∧ Hid (G w (put4 w1 w.heap.size [] [] 0 (.slice none 0 0)) ∧ ((put4 w1 w.heap.size [] [] 0 (.slice none 0 0)).cell? ⟨w.heap.size, 0, none⟩ = some (.string ⟨#[]⟩) ∧ (put4 w1 w.heap.size [] [] 0 (.slice none 0 0)).cell? ⟨w.heap.size, 1, none⟩ = some (.string ⟨#[]⟩) ∧ (put4 w1 w.heap.size [] [] 0 (.slice none 0 0)).cell? ⟨w.heap.size, 2, none⟩ = some (.int .i64 0) ∧ (put4 w1 w.heap.size [] [] 0 (.slice none 0 0)).cell? ⟨w.heap.size, 3, none⟩ = some (.slice none 0 0)))) := hide fun w1 g => by
      have b := (BoxT.zero w).g g
      obtain ⟨c0, c1, c2, c3⟩ := b.c
      have g2 := gs_put w.heap.size [] [] 0 (.slice none 0 0) w1
      have g1 := gz.trans g
      exact ⟨⟨_, _, _, _, c0, c1, c2, c3⟩, b.ff, hide ⟨⟨g2.os.trans g1.os, g2.tape.trans g1.tape, g2.output.trans g1.output, Nat.le_trans g1.size g2.size, fun k hk => (g2.block k (Nat.lt_of_lt_of_le hk g1.size) (by show ¬ k = w.heap.size; omega)).trans (g1.block k hk)⟩, b.put.c⟩⟩
    clear hE hT hgood hl gz
    go_enter Tryd.func7, Tryd.ntmps7
    go_wp2_with fail
    refine (unhide LX).mono ?_
    rintro e w1 hc
    obtain ⟨rfl, g⟩ : e = .returned (.tuple #[.slice none 0 0, .int .i64 (o : Int), .int .i64 6]) ∧ G (w.alloc (.cells zBox 27)) w1 := by
      obtain ⟨g, hc⟩ := hc
      rcases hc with ⟨o', e1, e2⟩ | ⟨e1, _⟩
      · cases e1; exact ⟨e2, g⟩
      · cases e1
    obtain ⟨⟨u0, u1, u2, u3, q0, q1, q2, q3⟩, ⟨z0, z1, z2, z3⟩, K1⟩ := unhide K w1 g
    clear K LX hc g
    go_wp2_with fail
    obtain ⟨K2, d0, d1, d2, d3⟩ := unhide K1
    refine bodyPost_ret (by simp [results, Tryd.results7, go_sem, d0, d1, d2, d3]; try rfl) rfl ?_
    exact ⟨K2, _, _, _, rfl, OwA.nil _ _⟩
  | none =>
    dsimp only at hgood ⊢
    obtain ⟨hw1, hw2⟩ := hgood rfl
    have hok := hw1.last
    have hne : ws ≠ [] := fun e => by rw [e] at hw1; exact hw1
    have hn1 : 1 ≤ ws.length := by cases ws with | nil => exact absurd rfl hne | cons a r => simp
    have ST : Hid (∀ w1 v, G (w.alloc (.cells zBox 27)) w1 → OwW 45 w1 (w.alloc (.cells zBox 27)).heap.size v ws → ∃ g cap, v = .slice (some ⟨g, 0, none⟩) ws.length cap ∧ RSt w1.heap.size g cap ws ⟨0, 0, 0, 0⟩ (w1.alloc (.cells #[.slice (some ⟨g, 0, none⟩) ws.length cap, .int .i64 0, .int .i64 0, .int .i64 0] 38))) := hide fun w1 v g hv => by
      obtain ⟨b, cap, e, h1, h2, h3, h4⟩ := hv.get hne
      have ga := G.alloc w1 (.cells #[.slice (some ⟨b, 0, none⟩) ws.length cap, .int .i64 0, .int .i64 0, .int .i64 0] 38)
      have hT1 := (hT.g (gz.trans g)).g ga
      have hz := (gz.trans g).size
      refine ⟨b, cap, e, ⟨⟨by omega, by rw [World.size_alloc]; omega, by omega, h3, fun i wd hi => h4 _ ga i wd hi, hw1.good, hok, hT1, by omega⟩, by show 0 < ws.length; omega, ?_⟩⟩
      have := heap_alloc_new w1 (.cells #[.slice (some ⟨b, 0, none⟩) ws.length cap, .int .i64 0, .int .i64 0, .int .i64 0] 38)
      simpa [RBk] using this
    have PR : Hid (∀ (rb wb wc : Nat) (y : World), RSt rb wb wc ws ⟨0, 0, 0, 0⟩ y → Calls Tryd.prog 9 #[.pointer (some ⟨rb, 0, none⟩)] y (NTo rb wb wc ws (progP ws ⟨0, 0, 0, 0⟩) y)) := hide fun rb wb wc y h => prog_ok hok _ rfl h
    unfold parseP
    dsimp only
    generalize progP ws ⟨0, 0, 0, 0⟩ = r at *
    have FIN : Hid (∀ w1, G (w.alloc (.cells zBox 27)) w1 → ∀ o w2 w3 ao n c wb wc, w2 = w1.alloc o → OwK w3 w2.heap.size (.slice ao n c) r.1.ks → RSt w1.heap.size wb wc ws r.2 w3 → Gt w1.heap.size w2 w3 → ∀ w4, w4 = w3.alloc (.cells #[.string ⟨r.1.k.toArray⟩, .string ⟨r.1.x.toArray⟩, .int .i64 r.1.a, .slice ao n c] 27) → (w4.cell? ⟨w1.heap.size, 2, none⟩ = some (.int .i64 r.2.a) ∧ w4.cell? ⟨w1.heap.size, 3, none⟩ = some (.int .i64 r.2.e) ∧ ¬ w1.heap.size = w.heap.size) ∧ (∃ u0 u1 u2 u3, w4.cell? ⟨w.heap.size, 0, none⟩ = some u0 ∧ w4.cell? ⟨w.heap.size, 1, none⟩ = some u1 ∧ w4.cell? ⟨w.heap.size, 2, none⟩ = some u2 ∧ w4.cell? ⟨w.heap.size, 3, none⟩ = some u3) ∧ (w4.frozen? ⟨w.heap.size, 0, none⟩ = false ∧ w4.frozen? ⟨w.heap.size, 1, none⟩ = false ∧ w4.frozen? ⟨w.heap.size, 2, none⟩ = false ∧ w4.frozen? ⟨w.heap.size, 3, none⟩ = false) ∧
        Hid (∀ (k x : List UInt8) (a : Int) (kv : Value), G w (put4 w4 w.heap.size k x a kv) ∧ ((put4 w4 w.heap.size k x a kv).cell? ⟨w.heap.size, 0, none⟩ = some (.string ⟨k.toArray⟩) ∧ (put4 w4 w.heap.size k x a kv).cell? ⟨w.heap.size, 1, none⟩ = some (.string ⟨x.toArray⟩) ∧ (put4 w4 w.heap.size k x a kv).cell? ⟨w.heap.size, 2, none⟩ = some (.int .i64 a) ∧ (put4 w4 w.heap.size k x a kv).cell? ⟨w.heap.size, 3, none⟩ = some kv) ∧ OwK (put4 w4 w.heap.size k x a kv) w.heap.size (.slice ao n c) r.1.ks)) := hide fun w1 g o w2 w3 ao n c wb wc e2 ho hs hg w4 e4 => by
      subst e2
      subst e4
      have ga := G.alloc w1 o
      have gb := G.alloc w3 (.cells #[.string ⟨r.1.k.toArray⟩, .string ⟨r.1.x.toArray⟩, .int .i64 r.1.a, .slice ao n c] 27)
      have hz := g.size
      rw [World.size_alloc] at hz
      have hz2 := ga.size
      have nb : ¬ w.heap.size = w1.heap.size := by omega
      have b := ((((BoxT.zero w).g g).g ga).keep hg nb).g gb
      obtain ⟨c0, c1, c2, c3⟩ := b.c
      refine ⟨⟨(hs.b.g gb).c.2.2.1, (hs.b.g gb).c.2.2.2, fun e => nb e.symm⟩, ⟨_, _, _, _, c0, c1, c2, c3⟩, b.ff, hide fun k x a kv => ?_⟩
      have gp := gs_put w.heap.size k x a kv (w3.alloc (.cells #[.string ⟨r.1.k.toArray⟩, .string ⟨r.1.x.toArray⟩, .int .i64 r.1.a, .slice ao n c] 27))
      have g1 := (gz.trans g).trans ga
      refine ⟨⟨gp.os.trans (gb.os.trans (hg.os.trans g1.os)), gp.tape.trans (gb.tape.trans (hg.tape.trans g1.tape)), gp.output.trans (gb.output.trans (hg.output.trans g1.output)), Nat.le_trans g1.size (Nat.le_trans hg.size (Nat.le_trans gb.size gp.size)), fun k hk => ?_⟩, b.put.c, OwA.mono (OwA.keep (OwA.g ho gb) gp.size (fun q (q1 : (w1.alloc o).heap.size ≤ q) q2 => gp.block q q2 (by show ¬ q = w.heap.size; omega))) (by omega)⟩
      have k1 := g1.size
      have k2 := hg.size
      have k3 := gb.size
      exact (gp.block k (by omega) (by show ¬ k = w.heap.size; omega)).trans ((gb.block k (by omega)).trans ((hg.block k (by omega) (by show ¬ k = w1.heap.size; omega)).trans (g1.block k hk)))
    obtain ⟨res, hres⟩ : ∃ res : Tt × Int × Int, res = (if r.2.e = 0 then (r.1, 0, 0) else (.mk [] [] 0 [], r.2.a, r.2.e)) := ⟨_, rfl⟩
    rw [← hres]
    replace hres := hide hres
    clear hE hT hl gz hgood hw1 hw2 hok hne hn1
    go_enter Tryd.func7, Tryd.ntmps7
    go_wp2_with fail
    refine (unhide LX).mono ?_
    rintro e w1 hc
    obtain ⟨v, rfl, g, hv⟩ : ∃ v, e = .returned (.tuple #[v, .int .i64 0, .int .i64 0]) ∧ G (w.alloc (.cells zBox 27)) w1 ∧ OwW 45 w1 (w.alloc (.cells zBox 27)).heap.size v ws := by
      obtain ⟨g, hc⟩ := hc
      rcases hc with ⟨o', e1, e2⟩ | ⟨_, v, e2, e3⟩
      · cases e1
      · exact ⟨v, e2, g, e3⟩
    obtain ⟨wb, cap, rfl, hst⟩ := unhide ST w1 v g hv
    have F1 := hide (unhide FIN w1 g)
    have P1 := hide (unhide PR _ _ _ _ hst)
    clear ST FIN PR LX hc g hv hst
    go_wp2_with fail
    refine (unhide P1).mono ?_
    rintro e w3 hn
    obtain ⟨ao, n, c, rfl, ho, hs, hg⟩ := hn.open
    obtain ⟨⟨a2, a3, hne⟩, ⟨u0, u1, u2, u3, q0, q1, q2, q3⟩, ⟨z0, z1, z2, z3⟩, K⟩ := unhide F1 _ _ w3 ao n c _ _ rfl ho hs hg _ rfl
    clear F1 P1 hn ho hs hg
    replace hne := hide hne
    by_cases he : r.2.e = 0
    · replace hres := unhide hres
      rw [if_pos he] at hres
      subst hres
      rw [he] at a3
      have K1 := hide (unhide K r.1.k r.1.x r.1.a (.slice ao n c))
      clear K
      go_wp2_with fail
      obtain ⟨K2, ⟨d0, d1, d2, d3⟩, K3⟩ := unhide K1
      refine bodyPost_ret (by simp [results, Tryd.results7, go_sem, d0, d1, d2, d3]; try rfl) rfl ?_
      exact ⟨K2, _, _, _, rfl, K3⟩
    · replace hres := unhide hres
      rw [if_neg he] at hres
      subst hres
      have he' : ¬ r.2.e = 0 := he
      have x2 := (gs_put w.heap.size [] [] 0 (.slice none 0 0) _).cell (unhide hne) a2
      have x3 := (gs_put w.heap.size [] [] 0 (.slice none 0 0) _).cell (unhide hne) a3
      have K1 := hide (unhide K [] [] 0 (.slice none 0 0))
      clear K
      go_wp2_with fail
      go_region
      all_goals
        go_wp2_with fail
        obtain ⟨K2, ⟨d0, d1, d2, d3⟩, K3⟩ := unhide K1
        refine bodyPost_ret (by simp [results, Tryd.results7, go_sem, d0, d1, d2, d3]; try rfl) rfl ?_
        exact ⟨K2.drew, _, _, _, rfl, OwA.nil _ _⟩
end Go.Proofs.YtablincnlfbjnabDoor
