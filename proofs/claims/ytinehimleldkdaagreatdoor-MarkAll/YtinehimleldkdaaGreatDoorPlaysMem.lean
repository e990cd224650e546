/- The contract of the document's Take, whole; an arena, the document's own and one call that came in, side by side. -/
import Derived.Test.YtinehimleldkdaaGreatDoorRefTake4
import Derived.Test.YtinehimleldkdaaGreatDoorPlaysPlain
namespace Go.Proofs.YtinehimleldkdaaGreatDoor
set_option maxRecDepth 100000
open Go.ChangeShapes Go.WideShapes Go.ChangeAt Go.RowKit Go.Maps

theorem find_no {l : List Thg} {x : Int} (h : findI l x < 0) : ∀ t, t ∈ l → t.addr ≠ x := by
  rcases findI_cases l x with ⟨_, hn⟩ | ⟨i, t, e, _, _⟩
  · exact hn
  · omega
theorem find_yes {l : List Thg} {x : Int} (h : 0 ≤ findI l x) : ∃ t, t ∈ l ∧ t.addr = x := by
  rcases findI_cases l x with ⟨e, _⟩ | ⟨i, t, _, hi, ha⟩
  · omega
  · exact ⟨t, List.mem_of_getElem? hi, ha⟩

/-- What has become of where the document's Arena lies: the same blocks, or new ones. -/
structure Grew (w : World) (r r' : Rd) (l l' : List Mt) : Prop where
  rb : r'.rb = r.rb
  cb : r'.cb = r.cb
  lo : ∀ a, r'.lo = some a → r.lo = some a ∨ w.heap.size ≤ a.block
  wb : ∀ m, m ∈ l' → (∃ m0, m0 ∈ l ∧ m.wb = m0.wb) ∨ w.heap.size ≤ m.wb
theorem Grew.refl (w : World) (r : Rd) (l : List Mt) : Grew w r r l l := ⟨rfl, rfl, fun _ h => Or.inl h, fun m hm => Or.inl ⟨m, hm, rfl⟩⟩

/-- The document's Take. -/
def TkPost (w : World) (B : Nat) (r : Rd) (cl : List Int) (l : List Mt) (s : Nat) (c : Int) (e : Ending) (w' : World) : Prop :=
  (e = .returned (.int .i64 0) ∧ G w w' ∧ ∀ q : Nat, (q : Int) < gp c → ∃ t, t ∈ things l ∧ t.addr = ga s q c) ∨
  (∃ (p k : Nat) (m : Mt) (r' : Rd), e = .returned (.int .i64 (ga s p c)) ∧ (p : Int) < gp c ∧ (∀ t, t ∈ things l → t.addr ≠ ga s p c) ∧ (∀ q : Nat, q < p → ∃ t, t ∈ things l ∧ t.addr = ga s q c) ∧ k ≤ l.length ∧
    (∀ (i : Nat) u, i < k → (things l)[i]? = some u → u.addr < ga s p c) ∧ (∀ u, (things l)[k]? = some u → ¬ u.addr < ga s p c) ∧ m.t = ⟨ga s p c, List.replicate (gw c).toNat 0, false⟩ ∧
    RefAt w' B r' cl (l.take k ++ m :: l.drop k) ∧ Rn w w' r l ∧ Grew w r r' l (l.take k ++ m :: l.drop k))
theorem RTpost.done {w : World} {B : Nat} {r : Rd} {cl : List Int} {l : List Mt} {s gpn gwn : Nat} {c : Int} {e : Ending} {w' : World} (h : RefAt w B r cl l) (hB : B ≤ w.heap.size) (hgp : gp c = gpn) (hgw : gw c = gwn)
    (R : RTpost w B r cl l (fun p => ga s p c) gpn gwn l.length e w') : TkPost w B r cl l s c e w' := by
  rcases R with ⟨rfl, g, hq⟩ | ⟨p, k, m, g, cap, w1, rfl, rfl, H⟩
  · exact Or.inl ⟨rfl, g, fun q hq' => find_yes (hq q (by omega))⟩
  · have hlen : (l.take k ++ m :: l.drop k).length = l.length + 1 := by
      rw [List.length_append, List.length_cons, List.length_take, List.length_drop]
      have := H.k1
      omega
    have hrow : RowM w1 w.heap.size (some ⟨g, 0, none⟩) cap (l.take k ++ m :: l.drop k) := by
      unfold RowM
      have := H.d.tk.row
      rw [hlen] at this ⊢
      exact this
    have hmem : ∀ m', m' ∈ l.take k ++ m :: l.drop k → m' = m ∨ m' ∈ l := by
      intro m' hm
      rw [List.mem_append, List.mem_cons] at hm
      rcases hm with hm | hm | hm
      · exact Or.inr (List.mem_of_mem_take hm)
      · exact Or.inl hm
      · exact Or.inr (List.mem_of_mem_drop hm)
    have hge := (hrow.lt _ rfl).1
    have hml := H.d.nt.lo
    have N := H.d.tk.ref.newRow (w := w) hB h.h0 h.h1 hrow (fun e => by cases e) (fun m' hm => by
      rcases hmem m' hm with rfl | hm
      · refine ⟨H.d.nt.wd, ?_, ?_, fun a ha => ?_⟩
        · have := h.h0; omega
        · have := h.h1; omega
        · injection ha with ha
          subst ha
          intro e
          apply H.d.nt.ap
          simp [Value.ownBlock, e]
      · obtain ⟨q0, q1, q2, _⟩ := H.d.tk.ref.wd m' hm
        refine ⟨q0, q1, q2, fun a ha => ?_⟩
        injection ha with ha
        subst ha
        have := (h.wd m' hm).1.hi
        show m'.wb ≠ g
        have hge' : w.heap.size ≤ g := hge
        omega) (by
      have lt : ∀ x, x ∈ l → x.wb < m.wb := fun x hx => Nat.lt_of_lt_of_le (h.wd x hx).1.hi hml
      refine List.pairwise_append.2 ⟨h.ap.sublist (List.take_sublist k l), List.pairwise_cons.2 ⟨fun y hy => ?_, h.ap.sublist (List.drop_sublist k l)⟩, fun x hx y hy => ?_⟩
      · have := lt y (List.mem_of_mem_drop hy); omega
      · rw [List.mem_cons] at hy
        rcases hy with rfl | hy
        · have := lt x (List.mem_of_mem_take hx); omega
        · have hp := h.ap
          rw [← List.take_append_drop k l] at hp
          exact (List.pairwise_append.1 hp).2.2 x hx y hy)
    rw [hlen] at N
    refine Or.inr ⟨p, k, m, _, rfl, by have := H.p1; omega, find_no H.p2, fun q hq => find_yes (H.p3 q hq), H.k1, H.k2, H.k3, ?_, N, ?_, ⟨rfl, rfl, fun a ha => ?_, fun m' hm => ?_⟩⟩
    · rw [H.t, hgw]; rfl
    · have S := H.d.tk.g
      exact ⟨S.os, S.tape, S.output, by rw [World.size_setCell]; exact S.size, fun b hb b0 b1 b2 b3 => (Below.heap_setCell _ _ _ _ b0).trans (S.block b hb)⟩
    · right
      have ha' : some (⟨g, 0, none⟩ : Addr) = some a := ha
      injection ha' with ha'
      subst ha'
      exact hge
    · rcases hmem m' hm with rfl | hm
      · exact Or.inr hml
      · exact Or.inl ⟨m', hm, rfl⟩

theorem rtake_at {w : World} {B : Nat} {r : Rd} {cl : List Int} {l : List Mt} (h : RefAt w B r cl l) (hB : B ≤ w.heap.size) (hl : l.length ≤ 2000) {s : Nat} {c : Int} (hc : cl[s]? = some c) (hc0 : 0 ≤ c) (hc5 : c ≤ 5) :
    Calls Tryz.prog 70 #[.pointer (some ⟨r.rb, 0, none⟩), .int .i64 (s : Int)] w fun e w' => TkPost w B r cl l s c e w' := by
  have hs : s < cl.length := (List.getElem?_eq_some_iff.1 hc).1
  have hp := gp_pos hc0 hc5
  obtain ⟨gpn, hgp⟩ := Int.eq_ofNat_of_zero_le (show 0 ≤ gp c by omega)
  obtain ⟨gwn, hgw⟩ := Int.eq_ofNat_of_zero_le (show 0 ≤ gw c by omega)
  cases hlo : r.lo with
  | none =>
    obtain ⟨rfl, _⟩ := h.nil hlo
    exact (rtake_none w B r cl s cl.length gpn gwn c (ga s (0 : Nat) c) (fun p => ga s p c) (hide hB) (hide h) (hide rfl) hs (hide hc) (hide hlo) (hide hgp) (by omega) (by omega) (hide hgw) (hide (by omega)) (hide rfl) (hide rfl) _ (hide rfl) (mk_wd gwn (by omega))).mono fun e w' R => RTpost.done h hB hgp hgw R
  | some ad =>
    obtain ⟨e, _⟩ := h.lf ad hlo
    rw [e] at hlo
    exact (rtake_some w B r cl l s l.length cl.length gpn gwn ad.block c (fun p => ga s p c) (hide rfl) hl (hide hB) (hide h) (hide rfl) hs (hide hc) (hide hlo) (hide hgp) (by omega) (hide hgw) (hide (by omega)) (hide fun _ _ => rfl) _ (hide rfl) (mk_wd gwn (by omega))).mono fun e w' R => RTpost.done h hB hgp hgw R

/-- The blocks of the document's Arena are none of the arena's. -/
structure OffR (d : Ad) (r : Rd) (l : List Mt) : Prop where
  rb : r.rb ≠ d.ab ∧ r.rb ≠ d.wb ∧ r.rb ≠ d.sb
  cb : r.cb ≠ d.ab ∧ r.cb ≠ d.wb ∧ r.cb ≠ d.sb
  lo : ∀ a, r.lo = some a → a.block ≠ d.ab ∧ a.block ≠ d.wb ∧ a.block ≠ d.sb
  wb : ∀ m, m ∈ l → m.wb ≠ d.ab ∧ m.wb ≠ d.wb ∧ m.wb ≠ d.sb
/-- A block that is none of the document's Arena's. -/
def OffX (xb : Nat) (r : Rd) (l : List Mt) : Prop := xb ≠ r.rb ∧ xb ≠ r.cb ∧ (∀ a, r.lo = some a → xb ≠ a.block) ∧ ∀ m, m ∈ l → xb ≠ m.wb

/-- An arena and the document's own, side by side. -/
structure Bn (W w : World) (d : Ad) (a : Ab) (r : Rd) (cl : List Int) (l : List Mt) : Prop where
  st : St W w d a
  ref : RefAt w W.heap.size r cl l
  off : OffR d r l
section
variable {W w w' : World} {d : Ad} {a a' : Ab} {r r' : Rd} {cl cl' : List Int} {l l' : List Mt}
theorem Bn.tn (h : Bn W w d a r cl l) (st : St W w' d a') (t : Tn w w' d) : Bn W w' d a' r cl l :=
  ⟨st, h.ref.kept ⟨t.block _ h.ref.h0 h.off.rb.2.1 h.off.rb.2.2, t.block _ h.ref.h1 h.off.cb.2.1 h.off.cb.2.2, fun a ha => t.block _ (h.ref.lf a ha).2.2.1 (h.off.lo a ha).2.1 (h.off.lo a ha).2.2,
    fun m hm => t.block _ (h.ref.wd m hm).1.hi (h.off.wb m hm).2.1 (h.off.wb m hm).2.2, t.size⟩, h.off⟩
theorem Bn.gr (h : Bn W w d a r cl l) (g : G w w') : Bn W w' d a r cl l := ⟨h.st.G g, h.ref.grown g, h.off⟩
theorem Bn.rn (h : Bn W w d a r cl l) (R : RefAt w' W.heap.size r' cl' l') (t : Rn w w' r l) (gw : Grew w r r' l l') : Bn W w' d a r' cl' l' := by
  have l0 := h.st.at_.lt0
  have l1 := h.st.at_.lt1 h.st.n8
  have l2 := h.st.at_.lt2 h.st.n8
  have keep : ∀ k, k < w.heap.size → OffX k r l → w'.heap[k]? = w.heap[k]? := fun k hk ho => t.block k hk ho.1 ho.2.1 ho.2.2.1 ho.2.2.2
  refine ⟨⟨h.st.at_.kept (keep _ l0 ⟨Ne.symm h.off.rb.1, Ne.symm h.off.cb.1, fun a ha => Ne.symm (h.off.lo a ha).1, fun m hm => Ne.symm (h.off.wb m hm).1⟩)
    (keep _ l1 ⟨Ne.symm h.off.rb.2.1, Ne.symm h.off.cb.2.1, fun a ha => Ne.symm (h.off.lo a ha).2.1, fun m hm => Ne.symm (h.off.wb m hm).2.1⟩)
    (keep _ l2 ⟨Ne.symm h.off.rb.2.2, Ne.symm h.off.cb.2.2, fun a ha => Ne.symm (h.off.lo a ha).2.2, fun m hm => Ne.symm (h.off.wb m hm).2.2⟩), h.st.good, ?_, h.st.tab⟩, R, ⟨?_, ?_, ?_, ?_⟩⟩
  · have hb := h.st.below
    refine ⟨t.os.trans hb.os, t.tape.trans hb.tape, t.output.trans hb.output, Nat.le_trans hb.size t.size, fun k hk => ?_⟩
    refine (keep k (Nat.lt_of_lt_of_le hk hb.size) ⟨?_, ?_, fun a ha => ?_, fun m hm => ?_⟩).trans (hb.block k hk)
    · have := h.ref.b0; omega
    · have := h.ref.b1; omega
    · have := (h.ref.lf a ha).2.1; omega
    · have := (h.ref.wd m hm).1.lo; omega
  · rw [gw.rb]; exact h.off.rb
  · rw [gw.cb]; exact h.off.cb
  · intro a ha
    rcases gw.lo a ha with e | e
    · exact h.off.lo a e
    · exact ⟨by omega, by omega, by omega⟩
  · intro m hm
    rcases gw.wb m hm with ⟨m0, hm0, e⟩ | e
    · rw [e]; exact h.off.wb m0 hm0
    · exact ⟨by omega, by omega, by omega⟩
end
end Go.Proofs.YtinehimleldkdaaGreatDoor
