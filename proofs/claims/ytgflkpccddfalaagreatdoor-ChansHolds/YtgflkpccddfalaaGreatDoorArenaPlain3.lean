/- PLAIN: Take, Write and Sweep of chapter 4 on an arena, and on the list of things beside it; no Go in it. -/
import Derived.Test.YtgflkpccddfalaaGreatDoorArenaPlain2
namespace Go.Proofs.YtgflkpccddfalaaGreatDoor
set_option maxRecDepth 100000

/-! ### Take -/
def Ab.take (a : Ab) (s p : Nat) : Ab :=
  { a with tk := upd a.tk s (a.tk s ||| 2 ^ p), wd := fun x => if ga s p (a.cls s) ≤ x ∧ x < ga s p (a.cls s) + gw (a.cls s) then 0 else a.wd x }

theorem Ab.Ok.take {a : Ab} (h : a.Ok) {s p : Nat} (h4 : (p : Int) < gp (a.cls s)) : (a.take s p).Ok := by
  refine ⟨h.n0, h.n1, h.c0, h.cr, ?_, ?_⟩
  · intro t hc q
    show (upd a.tk s (a.tk s ||| 2 ^ p) t).testBit q = true → (q : Int) < gp (a.cls t)
    by_cases e : t = s
    · subst e
      rw [upd_same, testBit_or_pow]
      intro hq
      by_cases e2 : p = q
      · subst e2; exact h4
      · simp [e2] at hq; exact h.tb t hc q hq
    · rw [upd_other _ _ e]; exact h.tb t hc q
  · intro t hc q hq
    show (upd a.tk s (a.tk s ||| 2 ^ p) t).testBit q = true
    have := h.mb t hc q hq
    by_cases e : t = s
    · subst e; rw [upd_same, testBit_or_pow, this]; rfl
    · rw [upd_other _ _ e]; exact this

/-- A thing laid into the list at k. -/
def insAt (l : List Thg) (k : Nat) (t : Thg) : List Thg := l.take k ++ t :: l.drop k
theorem mem_insAt {l : List Thg} {k : Nat} {t u : Thg} : u ∈ insAt l k t ↔ u = t ∨ u ∈ l := by
  unfold insAt
  rw [List.mem_append, List.mem_cons]
  constructor
  · rintro (h | h | h)
    · exact Or.inr (List.mem_of_mem_take h)
    · exact Or.inl h
    · exact Or.inr (List.mem_of_mem_drop h)
  · rintro (h | h)
    · exact Or.inr (Or.inl h)
    · rw [← List.take_append_drop k l, List.mem_append] at h
      rcases h with h | h
      · exact Or.inl h
      · exact Or.inr (Or.inr h)

/-- Where the walk along the list stops, the list is parted by the address. -/
theorem parted {l : List Thg} (up : l.Pairwise (fun x y => x.addr < y.addr)) {k : Nat} {x : Int} (hk : k ≤ l.length) (h1 : ∀ (i : Nat) u, i < k → l[i]? = some u → u.addr < x) (h2 : ∀ u, l[k]? = some u → ¬ u.addr < x) (hx : ∀ t, t ∈ l → t.addr ≠ x) :
    (∀ u, u ∈ l.take k → u.addr < x) ∧ (∀ u, u ∈ l.drop k → x < u.addr) := by
  constructor
  · intro u hu
    obtain ⟨i, hi, e⟩ := List.getElem_of_mem hu
    rw [List.length_take] at hi
    exact h1 i u (by omega) (by rw [List.getElem_take] at e; rw [List.getElem?_eq_getElem (by omega), e])
  · intro u hu
    have hul : u ∈ l := List.mem_of_mem_drop hu
    cases hd : l.drop k with
    | nil => rw [hd] at hu; cases hu
    | cons y r =>
      have hlt : k < l.length := by
        have := congrArg List.length hd
        rw [List.length_drop] at this
        simp at this
        omega
      have hy : l[k]? = some y := by
        have := congrArg List.head? hd
        rw [List.head?_drop] at this
        simpa using this
      have hy1 := h2 y hy
      have hy2 := hx y (List.mem_of_getElem? hy)
      have hup : (l.drop k).Pairwise (fun x y => x.addr < y.addr) := up.sublist (List.drop_sublist k l)
      rw [hd] at hup hu
      rcases List.mem_cons.1 hu with rfl | hu'
      · omega
      · have := (List.pairwise_cons.1 hup).1 u hu'
        omega

theorem Rel.take {a : Ab} {l : List Thg} (h : a.Ok) (r : Rel a l) {s p k : Nat} (h1 : 1 ≤ s) (h2 : s < a.n) (h3 : 0 ≤ a.cls s) (h4 : (p : Int) < gp (a.cls s)) (hf : (a.tk s).testBit p = false)
    (hk1 : ∀ u, u ∈ l.take k → u.addr < ga s p (a.cls s)) (hk2 : ∀ u, u ∈ l.drop k → ga s p (a.cls s) < u.addr) :
    Rel (a.take s p) (insAt l k ⟨ga s p (a.cls s), List.replicate (gw (a.cls s)).toNat 0, false⟩) := by
  have hgw : 0 ≤ gw (a.cls s) := by rcases gw_gp (a.cls s) with ⟨e, _⟩ | ⟨_, e, _⟩ <;> omega
  refine ⟨?_, ?_, ?_⟩
  · unfold insAt
    refine List.pairwise_append.2 ⟨r.up.sublist (List.take_sublist k l), List.pairwise_cons.2 ⟨hk2, r.up.sublist (List.drop_sublist k l)⟩, ?_⟩
    intro x hx y hy
    rcases List.mem_cons.1 hy with rfl | hy
    · exact hk1 x hx
    · have e1 := hk1 x hx
      have e2 := hk2 y hy
      omega
  · intro t ht
    rcases mem_insAt.1 ht with rfl | ht
    · refine ⟨s, p, h1, h2, h3, h4, ?_, rfl, ?_, ?_, ?_⟩
      · show (upd a.tk s (a.tk s ||| 2 ^ p) s).testBit p = true
        rw [upd_same, testBit_or_pow]; simp
      · show false = (a.mr s).testBit p
        by_cases hm : (a.mr s).testBit p = true
        · rw [h.mb s h3 p hm] at hf; cases hf
        · simpa using hm
      · show ((List.replicate (gw (a.cls s)).toNat (0 : Int)).length : Int) = gw (a.cls s)
        rw [List.length_replicate]; omega
      · intro j v hj
        show v = if ga s p (a.cls s) ≤ ga s p (a.cls s) + j ∧ ga s p (a.cls s) + j < ga s p (a.cls s) + gw (a.cls s) then 0 else a.wd (ga s p (a.cls s) + j)
        have hj2 := (List.getElem?_eq_some_iff.1 hj).1
        simp at hj2
        rw [if_pos (by omega)]
        have hj3 := List.mem_of_getElem? hj
        exact (List.mem_replicate.1 hj3).2
    · obtain ⟨s', p', g1, g2, g3, g4, g5, g6, g7, g8, g9⟩ := r.isT t ht
      refine ⟨s', p', g1, g2, g3, g4, ?_, g6, g7, g8, ?_⟩
      · show (upd a.tk s (a.tk s ||| 2 ^ p) s').testBit p' = true
        by_cases e : s' = s
        · subst e; rw [upd_same, testBit_or_pow, g5]; rfl
        · rw [upd_other _ _ e]; exact g5
      · intro j v hj
        show v = if ga s p (a.cls s) ≤ t.addr + j ∧ t.addr + j < ga s p (a.cls s) + gw (a.cls s) then 0 else a.wd (t.addr + j)
        have hj2 := (List.getElem?_eq_some_iff.1 hj).1
        rw [if_neg]
        · exact g9 j v hj
        · intro hc
          refine places_apart h h1 h2 h3 h4 g1 g2 g3 g4 ?_ hc (by rw [← g6]; omega)
          rintro ⟨rfl, rfl⟩
          rw [g5] at hf; cases hf
  · intro s' p' g1 g2 g3
    show (upd a.tk s (a.tk s ||| 2 ^ p) s').testBit p' = true → (p' : Int) < gp (a.cls s') → _
    intro g4 g5
    by_cases e : s' = s
    · subst e
      rw [upd_same, testBit_or_pow] at g4
      by_cases e2 : p = p'
      · subst e2
        exact ⟨_, mem_insAt.2 (Or.inl rfl), rfl⟩
      · simp [e2] at g4
        obtain ⟨t, ht, et⟩ := r.inL s' p' g1 g2 g3 g4 g5
        exact ⟨t, mem_insAt.2 (Or.inr ht), et⟩
    · rw [upd_other _ _ e] at g4
      obtain ⟨t, ht, et⟩ := r.inL s' p' g1 g2 g3 g4 g5
      exact ⟨t, mem_insAt.2 (Or.inr ht), et⟩

/-! ### Write -/
def Ab.write (a : Ab) (x v : Int) : Ab := { a with wd := fun y => if y = x then v else a.wd y }
theorem Ab.Ok.write {a : Ab} (h : a.Ok) (x v : Int) : (a.write x v).Ok := ⟨h.n0, h.n1, h.c0, h.cr, h.tb, h.mb⟩
def writeAt (l : List Thg) (x : Int) (k : Nat) (v : Int) : List Thg := l.map fun t => if t.addr = x then { t with ws := t.ws.set k v } else t
theorem writeAt_addr (x : Int) (k : Nat) (v : Int) (t : Thg) : (if t.addr = x then { t with ws := t.ws.set k v } else t).addr = t.addr := by split <;> rfl
theorem Rel.write {a : Ab} {l : List Thg} (h : a.Ok) (r : Rel a l) {s p k : Nat} {v : Int} (h1 : 1 ≤ s) (h2 : s < a.n) (h3 : 0 ≤ a.cls s) (h4 : (p : Int) < gp (a.cls s)) (hk : (k : Int) < gw (a.cls s)) :
    Rel (a.write (ga s p (a.cls s) + k) v) (writeAt l (ga s p (a.cls s)) k v) := by
  refine ⟨?_, ?_, ?_⟩
  · refine List.pairwise_map.2 (r.up.imp ?_)
    intro x y hxy
    rw [writeAt_addr, writeAt_addr]; exact hxy
  · intro t ht
    obtain ⟨u, hu, rfl⟩ := List.mem_map.1 ht
    obtain ⟨s', p', g1, g2, g3, g4, g5, g6, g7, g8, g9⟩ := r.isT u hu
    refine ⟨s', p', g1, g2, g3, g4, g5, by rw [writeAt_addr]; exact g6, by split <;> exact g7, ?_, ?_⟩
    · split
      · show ((u.ws.set k v).length : Int) = _
        rw [List.length_set]; exact g8
      · exact g8
    · intro j y hj
      rw [writeAt_addr]
      show y = if u.addr + j = ga s p (a.cls s) + k then v else a.wd (u.addr + j)
      by_cases e : u.addr = ga s p (a.cls s)
      · rw [if_pos e] at hj
        have hj' : (u.ws.set k v)[j]? = some y := hj
        rw [List.getElem?_set] at hj'
        by_cases e2 : k = j
        · subst e2
          rw [if_pos (by omega)]
          rw [if_pos rfl] at hj'
          split at hj'
          · exact (Option.some.inj hj').symm
          · cases hj'
        · rw [if_neg e2] at hj'
          rw [if_neg (by omega)]
          exact g9 j y hj'
      · rw [if_neg e] at hj
        have hj2 := (List.getElem?_eq_some_iff.1 hj).1
        rw [if_neg]
        · exact g9 j y hj
        · intro hc
          have hgw : 0 ≤ gw (a.cls s) := by rcases gw_gp (a.cls s) with ⟨e, _⟩ | ⟨_, e, _⟩ <;> omega
          refine places_apart h h1 h2 h3 h4 g1 g2 g3 g4 ?_ (x := u.addr + j) (by omega) (by rw [← g6]; omega)
          rintro ⟨rfl, rfl⟩
          exact e g6
  · intro s' p' g1 g2 g3 g4 g5
    obtain ⟨t, ht, e⟩ := r.inL s' p' g1 g2 g3 g4 g5
    exact ⟨_, List.mem_map.2 ⟨t, ht, rfl⟩, by rw [writeAt_addr]; exact e⟩
end Go.Proofs.YtgflkpccddfalaaGreatDoor
