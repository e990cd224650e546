/- PLAIN: words written with a blank behind each are cut the same. -/
import Derived.Test.YtodfcmmdnobdhaaDoorLexRow
namespace Go.Proofs.YtodfcmmdnobdhaaDoor
set_option maxRecDepth 100000
open Go.RowKit Go.Maps Go.ChangeShapes Go.WideShapes Go.ChangeAt

theorem let_facts (n : Nat) (h : letN n = true) : blankN n = false ∧ n ≠ 47 := by
  simp only [letN, Bool.or_eq_true, Bool.and_eq_true, decide_eq_true_eq, beq_iff_eq] at h
  refine ⟨?_, by omega⟩
  simp only [blankN, Bool.or_eq_false_iff, beq_eq_false_iff_ne]
  omega
theorem dig_facts (n : Nat) (h : digN n = true) : blankN n = false ∧ n ≠ 47 := by
  simp only [digN, Bool.and_eq_true, decide_eq_true_eq] at h
  refine ⟨?_, by omega⟩
  simp only [blankN, Bool.or_eq_false_iff, beq_eq_false_iff_ne]
  omega
/-- A word that is cut just so wherever a blank stands behind it. -/
def GoodW (k : Nat) (x : List UInt8) : Prop := x ≠ [] ∧ ∀ r, gap (x ++ 32 :: r) = 0 ∧ firstW (x ++ 32 :: r) = (k, x.length)
theorem gap_zero {c : UInt8} {r : List UInt8} (h : gap (c :: r) = 0) : blankN c.toNat = false ∧ ¬ (c = 47 ∧ r.head? = some 47) := by
  cases hb : blankN c.toNat with
  | true => rw [gap_blank hb] at h; omega
  | false =>
    refine ⟨rfl, ?_⟩
    rintro ⟨rfl, h2⟩
    rw [gap_remark h2] at h
    have : leadW lineN (47 :: r) = leadW lineN r + 1 := rfl
    omega
theorem ne47 {c : UInt8} (h : c.toNat ≠ 47) : ¬ c = 47 := fun e => h (by rw [e]; rfl)
theorem good_name {c : UInt8} {l : List UInt8} (hc : letN c.toNat = true) (h : (nameW ((c :: l).take (leadW nmN (c :: l)))).2 ≠ 0) :
    GoodW (nameW ((c :: l).take (leadW nmN (c :: l)))).1 ((c :: l).take (nameW ((c :: l).take (leadW nmN (c :: l)))).2) := by
  obtain ⟨x, hx⟩ : ∃ x, x = (c :: l).take (leadW nmN (c :: l)) := ⟨_, rfl⟩
  have hall := leadW_all (p := nmN) (l := c :: l)
  have hle := leadW_le nmN (c :: l)
  rw [← hx] at h hall ⊢
  have hnm : nmN c.toNat = true := by simp [nmN, hc]
  have hpos : leadW nmN (c :: l) = leadW nmN l + 1 := by simp [leadW, hnm]
  have hxl : x.length = leadW nmN (c :: l) := by rw [hx, List.length_take]; omega
  have h2 : (nameW x).2 = x.length := by
    unfold nameW at h ⊢
    split
    · rename_i h3; rw [if_pos h3] at h; exact absurd rfl h
    · split <;> rfl
  rw [h2, show (c :: l).take x.length = x by rw [hxl, ← hx]]
  have hxc : ∃ y, x = c :: y := by rw [hx, hpos]; exact ⟨_, by rw [List.take_succ_cons]⟩
  obtain ⟨y, rfl⟩ := hxc
  obtain ⟨f1, f2⟩ := let_facts _ hc
  refine ⟨by simp, fun r => ⟨gap_none f1 (fun g => ne47 f2 g.1), ?_⟩⟩
  have h32 : leadW nmN (32 :: r) = 0 := rfl
  have hld := leadW_app (p := nmN) (x := c :: y) (l := 32 :: r) hall h32
  show (if letN c.toNat = true then nameW (((c :: y) ++ 32 :: r).take (leadW nmN ((c :: y) ++ 32 :: r))) else _) = _
  rw [if_pos hc, hld, List.take_left']
  · rw [← h2]
  · rfl
theorem good_num {c : UInt8} {l : List UInt8} (hl : letN c.toNat = false) (hc : digN c.toNat = true) (h : (numW ((c :: l).take (leadW digN (c :: l)))).2 ≠ 0) :
    GoodW (numW ((c :: l).take (leadW digN (c :: l)))).1 ((c :: l).take (numW ((c :: l).take (leadW digN (c :: l)))).2) := by
  obtain ⟨x, hx⟩ : ∃ x, x = (c :: l).take (leadW digN (c :: l)) := ⟨_, rfl⟩
  have hall := leadW_all (p := digN) (l := c :: l)
  have hle := leadW_le digN (c :: l)
  rw [← hx] at h hall ⊢
  have hpos : leadW digN (c :: l) = leadW digN l + 1 := by simp [leadW, hc]
  have hxl : x.length = leadW digN (c :: l) := by rw [hx, List.length_take]; omega
  have h2 : (numW x).2 = x.length := by
    unfold numW at h ⊢
    split
    · rfl
    · rename_i h3; rw [if_neg h3] at h; exact absurd rfl h
  rw [h2, show (c :: l).take x.length = x by rw [hxl, ← hx]]
  have hxc : ∃ y, x = c :: y := by rw [hx, hpos]; exact ⟨_, by rw [List.take_succ_cons]⟩
  obtain ⟨y, rfl⟩ := hxc
  obtain ⟨f1, f2⟩ := dig_facts _ hc
  refine ⟨by simp, fun r => ⟨gap_none f1 (fun g => ne47 f2 g.1), ?_⟩⟩
  have h32 : leadW digN (32 :: r) = 0 := rfl
  have hld := leadW_app (p := digN) (x := c :: y) (l := 32 :: r) hall h32
  show (if letN c.toNat = true then _ else if digN c.toNat = true then numW (((c :: y) ++ 32 :: r).take (leadW digN ((c :: y) ++ 32 :: r))) else _) = _
  rw [if_neg (by rw [hl]; simp), if_pos hc, hld, List.take_left']
  · rw [← h2]
  · rfl
theorem two_no32 : ∀ c : UInt8, twoL.contains [c, 32] = false := by
  intro c
  simp [twoL]
theorem two_47 : twoL.contains [47, 47] = false := by decide
theorem good_sign {c : UInt8} {l : List UInt8} (hg : gap (c :: l) = 0) (hl : letN c.toNat = false) (hd : digN c.toNat = false) (h : signN (c :: l) ≠ 0) : GoodW 4 ((c :: l).take (signN (c :: l))) := by
  obtain ⟨f1, f2⟩ := gap_zero hg
  have hfw : ∀ y, firstW (c :: y) = (4, signN (c :: y)) := fun y => by
    show (if letN c.toNat = true then _ else if digN c.toNat = true then _ else _) = _
    rw [if_neg (by rw [hl]; simp), if_neg (by rw [hd]; simp)]
  cases ht : twoP (c :: l) with
  | true =>
    have e2 : signN (c :: l) = 2 := by simp [signN, signM, ht]
    rw [e2]
    cases l with
    | nil => simp [twoP] at ht
    | cons d l =>
      have htw : twoL.contains [c, d] = true := by simpa [twoP] using ht
      refine ⟨by simp, fun r => ⟨gap_none f1 ?_, ?_⟩⟩
      · rintro ⟨rfl, h2⟩
        have h2 : d = 47 := by simpa using h2
        subst h2
        rw [two_47] at htw
        cases htw
      · show firstW (c :: d :: 32 :: r) = (4, 2)
        rw [hfw]
        have : twoP (c :: d :: 32 :: r) = true := by simp only [twoP]; simpa using htw
        simp [signN, signM, this]
  | false =>
    have e1 : signN (c :: l) = 1 := by
      simp only [signN, signM, ht] at h ⊢
      cases ho : headP (c :: l) with
      | true => simp
      | false => rw [ho] at h; simp at h
    have ho : oneP c = true := by
      have : headP (c :: l) = oneP c := rfl
      simp only [signN, signM, ht, this] at h
      cases hq : oneP c with
      | true => rfl
      | false => rw [hq] at h; simp at h
    rw [e1]
    refine ⟨by simp, fun r => ⟨gap_none f1 ?_, ?_⟩⟩
    · rintro ⟨rfl, h2⟩
      simp at h2
    · show firstW (c :: 32 :: r) = (4, 1)
      rw [hfw]
      have h1 : twoP (c :: 32 :: r) = false := by
        have := two_no32 c
        simp only [twoP]
        simpa using this
      have h2 : headP (c :: 32 :: r) = true := ho
      simp [signN, signM, h1, h2]
theorem good_first {l : List UInt8} (h0 : l ≠ []) (hg : gap l = 0) (h : (firstW l).2 ≠ 0) : GoodW (firstW l).1 (l.take (firstW l).2) := by
  cases l with
  | nil => exact absurd rfl h0
  | cons c l =>
    cases hl : letN c.toNat with
    | true =>
      have e : firstW (c :: l) = nameW ((c :: l).take (leadW nmN (c :: l))) := by
        show (if letN c.toNat = true then _ else _) = _
        rw [if_pos hl]
      rw [e] at h ⊢
      exact good_name hl h
    | false =>
      cases hd : digN c.toNat with
      | true =>
        have e : firstW (c :: l) = numW ((c :: l).take (leadW digN (c :: l))) := by
          show (if letN c.toNat = true then _ else if digN c.toNat = true then _ else _) = _
          rw [if_neg (by rw [hl]; simp), if_pos hd]
        rw [e] at h ⊢
        exact good_num hl hd h
      | false =>
        have e : firstW (c :: l) = (4, signN (c :: l)) := by
          show (if letN c.toNat = true then _ else if digN c.toNat = true then _ else _) = _
          rw [if_neg (by rw [hl]; simp), if_neg (by rw [hd]; simp)]
        rw [e] at h ⊢
        exact good_sign hg hl hd h

/-- The words, a blank behind each. -/
def catW (ws : List Wd) : List UInt8 := ws.flatMap (fun a => a.x ++ [32])
def kxW (ws : List Wd) : List (Nat × List UInt8) := ws.map (fun a => (a.k, a.x))
/-- Good words, and the end. -/
def GoodL : List Wd → Prop
  | [] => False
  | [a] => a.k = 0 ∧ a.x = []
  | a :: b :: r => GoodW a.k a.x ∧ GoodL (b :: r)
theorem cut_cat : ∀ (ws : List Wd) (o : Nat), GoodL ws → (cutL (catW ws) o).2 = none ∧ kxW (cutL (catW ws) o).1 = kxW ws
  | [], _, h => h.elim
  | [a], o, h => by
    obtain ⟨h1, h2⟩ := h
    have e : catW [a] = [32] := by simp [catW, h2]
    have hg : gap [32] = 1 := by rw [gap_blank (by decide), gap_nil]
    rw [e, cutL_end (by rw [hg]; rfl)]
    exact ⟨rfl, by simp [kxW, h1, h2]⟩
  | a :: b :: r, o, h => by
    obtain ⟨h1, h2⟩ := h
    have e : catW (a :: b :: r) = a.x ++ 32 :: catW (b :: r) := by simp [catW]
    obtain ⟨hne, hgd⟩ := h1
    obtain ⟨hg, hf⟩ := hgd (catW (b :: r))
    have hx : 0 < a.x.length := List.length_pos_iff.2 hne
    rw [e]
    have hlt : gap (a.x ++ 32 :: catW (b :: r)) < (a.x ++ 32 :: catW (b :: r)).length := by rw [hg, List.length_append]; omega
    have hw := cutL_word (o := o) hlt (by rw [hg, List.drop_zero, hf]; show a.x.length ≠ 0; omega)
    rw [hg, List.drop_zero, hf] at hw
    simp only [Nat.add_zero, List.take_left', List.drop_left'] at hw
    have hb : cutL (32 :: catW (b :: r)) (o + a.x.length) = cutL (catW (b :: r)) (o + a.x.length + 1) :=
      cutL_gap (l := 32 :: catW (b :: r)) (g := 1) (by simp) (by rw [gap_blank (by decide)]; simp)
    rw [hw, hb]
    obtain ⟨i1, i2⟩ := cut_cat (b :: r) (o + a.x.length + 1) h2
    exact ⟨i1, by simp only [kxW, List.map_cons] at i2 ⊢; rw [i2]⟩
/-- What is known of the words of a text. -/
theorem cut_facts (l : List UInt8) (o : Nat) (h : (cutL l o).2 = none) :
    GoodL (cutL l o).1 ∧ (catW (cutL l o).1).length ≤ l.length + (cutL l o).1.length ∧ (cutL l o).1.length ≤ l.length + 1 ∧
      ∀ a ∈ (cutL l o).1, o ≤ a.o ∧ a.o + a.x.length ≤ o + l.length ∧ (l.drop (a.o - o)).take a.x.length = a.x := by
  induction hn : l.length using Nat.strongRecOn generalizing l o with
  | _ n ih =>
    subst hn
    have hgl := gap_le l
    by_cases h1 : gap l < l.length
    · by_cases h2 : (firstW (l.drop (gap l))).2 = 0
      · rw [cutL_bad h1 h2] at h; cases h
      · have hne : l.drop (gap l) ≠ [] := fun e => by
          have := congrArg List.length e
          rw [List.length_drop] at this
          simp at this
          omega
        have hgood := good_first hne (gap_idem l) h2
        have hle := firstW_le (l.drop (gap l))
        have hw := cutL_word (o := o) h1 h2
        rw [List.length_drop] at hle
        rw [hw] at h ⊢
        obtain ⟨n, hn⟩ : ∃ n, n = (firstW (l.drop (gap l))).2 := ⟨_, rfl⟩
        obtain ⟨kd, hkd⟩ : ∃ kd, kd = (firstW (l.drop (gap l))).1 := ⟨_, rfl⟩
        obtain ⟨g, hg⟩ : ∃ g, g = gap l := ⟨_, rfl⟩
        rw [← hn, ← hkd] at hgood
        rw [← hn] at hle h h2
        rw [← hn, ← hkd]
        rw [← hg] at hgood hle h h1 ⊢
        have hlen : ((l.drop g).drop n).length = l.length - (g + n) := by rw [List.drop_drop, List.length_drop]
        obtain ⟨j1, j2, j3, j4⟩ := ih ((l.drop g).drop n).length (by rw [hlen]; omega) ((l.drop g).drop n) (o + g + n) h rfl
        generalize cutL ((l.drop g).drop n) (o + g + n) = q at h j1 j2 j3 j4
        have htl : ((l.drop g).take n).length = n := by rw [List.length_take, List.length_drop]; omega
        refine ⟨?_, ?_, ?_, ?_⟩
        · cases hq : q.1 with
          | nil => rw [hq] at j1; exact j1.elim
          | cons b r => rw [hq] at j1; exact ⟨hgood, j1⟩
        · have e : catW (⟨kd, (l.drop g).take n, o + g⟩ :: q.1) = (l.drop g).take n ++ [32] ++ catW q.1 := by simp [catW]
          rw [e, List.length_append, List.length_append, htl, List.length_cons]
          simp only [List.length_cons, List.length_nil]
          omega
        · rw [List.length_cons]; omega
        · intro a ha
          rcases List.mem_cons.1 ha with rfl | ha
          · refine ⟨by show o ≤ o + g; omega, by show o + g + ((l.drop g).take n).length ≤ _; rw [htl]; omega, ?_⟩
            show (l.drop (o + g - o)).take ((l.drop g).take n).length = (l.drop g).take n
            rw [htl, show o + g - o = g by omega]
          · obtain ⟨k1, k2, k3⟩ := j4 a ha
            refine ⟨by omega, by rw [hlen] at k2; omega, ?_⟩
            rw [List.drop_drop, List.drop_drop] at k3
            rw [show a.o - o = g + (n + (a.o - (o + g + n))) by omega]
            exact k3
    · rw [cutL_end (by omega)]
      refine ⟨⟨rfl, rfl⟩, by simp [catW], by simp, ?_⟩
      intro a ha
      rw [List.mem_singleton] at ha
      subst ha
      exact ⟨by show o ≤ o + l.length; omega, by show o + l.length + 0 ≤ _; omega, by simp⟩
end Go.Proofs.YtodfcmmdnobdhaaDoor
