/- The document's own Sets and Maps (gantlineref9). -/
import Derived.Test.YtpbeafgfhnlmbaaLiveSm
import Derived.Test.YtpbeafgfhnlmbaaLiveDoc
import Derived.Test.YtpbeafgfhnlmbaaLiveDRd3
import Derived.Test.YtpbeafgfhnlmbaaLiveDWr
import Derived.Test.YtpbeafgfhnlmbaaLiveRD
import Derived.Laws.BitsAllLaws
namespace Go.Proofs.Ytpbeafgfhnlmbaa
set_option maxRecDepth 100000
open Go.RowKit Go.Maps Go.ChangeShapes Go.WideShapes Go.ChangeAt Go.Deep

theorem bit_64 {a s : Nat} (ha : a < 18446744073709551616) (h : a.testBit s = true) : s < 64 := by
  refine Classical.byContradiction (fun hge => ?_)
  have e2 : a.testBit s = false := Nat.testBit_lt_two_pow (Nat.lt_of_lt_of_le ha (show 2 ^ 64 ≤ 2 ^ s from Nat.pow_le_pow_right (by decide) (by omega)))
  rw [e2] at h
  cases h
def anU (a b : Nat) : Nat := a &&& (18446744073709551615 - b)
theorem anU_lt {a : Nat} (b : Nat) (ha : a < 18446744073709551616) : anU a b < 18446744073709551616 := Nat.lt_of_le_of_lt Nat.and_le_left ha
theorem anU_bit {a b : Nat} (s : Nat) (ha : a < 18446744073709551616) (hb : b < 18446744073709551616) : (anU a b).testBit s = true ↔ a.testBit s = true ∧ b.testBit s = false := by
  unfold anU
  have e2 : (18446744073709551615 - b).testBit s = (decide (s < 64) && !b.testBit s) := notU_bit b s hb
  rw [Nat.testBit_and, e2]
  constructor
  · intro h
    simp at h
    exact ⟨h.1, h.2.2⟩
  · rintro ⟨h1, h2⟩
    have := bit_64 ha h1
    simp [h1, h2, this]
theorem bitP_no (a : Int) (s : Nat) : (bitP a).testBit s = false ↔ ¬ ((s : Int) = a ∧ s < 64) := by
  rw [← bitP_bit]
  cases (bitP a).testBit s <;> simp
/-- What comes along the ways. -/
def orW (st : Nat → Nat) (l : List Wy) (a : Nat) : Nat := l.foldl (fun a w => a ||| anU (st w.1.toNat) (bitP w.2)) a
def anL (l : List Int) (v : Nat) : Nat := l.foldl (fun a s => anU a (bitP s)) v
def orL (l : List Int) (v : Nat) : Nat := l.foldl (fun a s => a ||| bitP s) v
theorem orW_lt (st : Nat → Nat) : ∀ (l : List Wy) (a : Nat), (∀ w ∈ l, st w.1.toNat < 18446744073709551616) → a < 18446744073709551616 → orW st l a < 18446744073709551616
  | [], _, _, h => h
  | w :: l, a, hb, h => orW_lt st l _ (fun x hx => hb x (List.mem_cons_of_mem _ hx)) (or_lt h (anU_lt _ (hb w (by simp))))
theorem orW_bit (st : Nat → Nat) : ∀ (l : List Wy) (a s : Nat), (∀ w ∈ l, st w.1.toNat < 18446744073709551616) → ((orW st l a).testBit s = true ↔ a.testBit s = true ∨ ∃ w ∈ l, (st w.1.toNat).testBit s = true ∧ ¬ ((s : Int) = w.2 ∧ s < 64))
  | [], a, s, _ => by simp [orW]
  | x :: l, a, s, hb => by
    have ih := orW_bit st l (a ||| anU (st x.1.toNat) (bitP x.2)) s (fun w hw => hb w (List.mem_cons_of_mem _ hw))
    show (orW st l (a ||| anU (st x.1.toNat) (bitP x.2))).testBit s = true ↔ _
    rw [ih, Nat.testBit_or, Bool.or_eq_true, anU_bit s (hb x (by simp)) (bitP_lt _), bitP_no]
    constructor
    · rintro ((h | h) | ⟨w, hw, h⟩)
      · exact Or.inl h
      · exact Or.inr ⟨x, by simp, h⟩
      · exact Or.inr ⟨w, List.mem_cons_of_mem _ hw, h⟩
    · rintro (h | ⟨w, hw, h⟩)
      · exact Or.inl (Or.inl h)
      · rcases List.mem_cons.1 hw with rfl | hw
        · exact Or.inl (Or.inr h)
        · exact Or.inr ⟨w, hw, h⟩
theorem anL_lt : ∀ (l : List Int) (v : Nat), v < 18446744073709551616 → anL l v < 18446744073709551616
  | [], _, h => h
  | _ :: l, _, h => anL_lt l _ (anU_lt _ h)
theorem anL_bit : ∀ (l : List Int) (v s : Nat), v < 18446744073709551616 → ((anL l v).testBit s = true ↔ v.testBit s = true ∧ (s : Int) ∉ l)
  | [], v, s, _ => by simp [anL]
  | x :: l, v, s, hv => by
    show (anL l (anU v (bitP x))).testBit s = true ↔ _
    rw [anL_bit l _ s (anU_lt _ hv), anU_bit s hv (bitP_lt _), bitP_no, List.mem_cons]
    constructor
    · rintro ⟨⟨h1, h2⟩, h3⟩
      have := bit_64 hv h1
      exact ⟨h1, fun h => h.elim (fun e => h2 ⟨e, this⟩) h3⟩
    · rintro ⟨h1, h2⟩
      exact ⟨⟨h1, fun h => h2 (Or.inl h.1)⟩, fun h => h2 (Or.inr h)⟩
/-- What is read later ahead of an instruction, if st is what is read later ahead of each. -/
def stV (st : Nat → Nat) (wl : List Wy) (wr rd : List Int) : Nat := orL rd (anL wr (orW st wl 0))
theorem stV_lt (st : Nat → Nat) (wl : List Wy) (wr rd : List Int) (hb : ∀ w ∈ wl, st w.1.toNat < 18446744073709551616) : stV st wl wr rd < 18446744073709551616 :=
  msk_lt' rd _ (anL_lt wr _ (orW_lt st wl 0 hb (by decide)))
theorem stV_bit (st : Nat → Nat) (wl : List Wy) (wr rd : List Int) (s : Nat) (hb : ∀ w ∈ wl, st w.1.toNat < 18446744073709551616) :
    (stV st wl wr rd).testBit s = true ↔ ((∃ w ∈ wl, (st w.1.toNat).testBit s = true ∧ ¬ ((s : Int) = w.2 ∧ s < 64)) ∧ (s : Int) ∉ wr) ∨ (s < 64 ∧ (s : Int) ∈ rd) := by
  have e := msk_bit' rd (anL wr (orW st wl 0)) s
  show (List.foldl (fun a s => a ||| bitP s) (anL wr (orW st wl 0)) rd).testBit s = true ↔ _
  rw [e, anL_bit wr _ s (orW_lt st wl 0 hb (by decide)), orW_bit st wl 0 s hb]
  simp only [Nat.zero_testBit, Bool.false_eq_true, false_or]
def stA (m : Md) (f : Fn) (st : Nat → Nat) (pc : Nat) (i : In) : Nat := stV st (thereP f.is.length (waysP m i (pc : Int))) (wrP i) (rdP m i)
theorem there_in {n : Nat} {l : List Wy} {w : Wy} (h : w ∈ thereP n l) : w ∈ l ∧ 0 ≤ w.1 ∧ w.1 < (n : Int) := by
  unfold thereP at h
  rw [List.mem_filter] at h
  refine ⟨h.1, ?_⟩
  have := h.2
  unfold inC at this
  simp at this
  exact this
theorem there_mk {n : Nat} {l : List Wy} {w : Wy} (h : w ∈ l) (h0 : 0 ≤ w.1) (h1 : w.1 < (n : Int)) : w ∈ thereP n l := by
  unfold thereP
  rw [List.mem_filter]
  refine ⟨h, ?_⟩
  unfold inC
  simp
  exact ⟨h0, h1⟩
theorem ways_m1 (m : Md) (i : In) (pc : Int) (h : i.op ≠ 41) (w : Wy) (hw : w ∈ waysP m i pc) : w.2 = -1 := by
  unfold waysP at hw
  split at hw
  · simp at hw; rw [hw]
  · split at hw
    · simp at hw; rcases hw with hw | hw <;> rw [hw]
    · split at hw
      · simp at hw
      · split at hw
        · simp at hw
        · first
          | (rw [if_neg h] at hw; simp at hw; rw [hw])
          | (simp at hw; rw [hw])
theorem ways_41 (m : Md) (i : In) (pc : Int) (h : i.op = 41) : waysP m i pc = (casesP m i.a i.b).map wyOf := by
  unfold waysP
  rw [h]
  rfl
theorem fl_fst (m : Md) (f : Fn) (pc : Nat) (i : In) (hi : f.is[pc]? = some i) (q : Int) : q ∈ flP m f (pc : Int) ↔ (∃ w ∈ waysP m i (pc : Int), w.1 = q) ∧ 0 ≤ q ∧ q < (f.is.length : Int) := by
  have e : flP m f (pc : Int) = plP f.is.length (folT m i (pc : Int)) := by
    unfold flP
    rw [if_neg (by omega), Int.toNat_natCast, hi]
  rw [e, plP_mem, ← ways_fst, List.mem_map]
theorem wrP_41 (i : In) (h : i.op = 41) : wrP i = [] := by
  unfold wrP
  rw [h]
  rfl
/-- What is known while the instructions are asked. -/
structure DI (m : Md) (f : Fn) (st : Nat → Nat) : Prop where
  up : ∀ X, ClD m f X → ∀ pc s, pc < f.is.length → (st pc).testBit s = true → X pc s
  gr : ∀ pc i, f.is[pc]? = some i → ∀ s, (st pc).testBit s = true → (stA m f st pc i).testBit s = true
  bd : ∀ pc, pc < f.is.length → st pc < 18446744073709551616
theorem st_ways {m : Md} {f : Fn} {st : Nat → Nat} (hb : ∀ pc, pc < f.is.length → st pc < 18446744073709551616) (pc : Nat) (i : In) : ∀ w ∈ thereP f.is.length (waysP m i (pc : Int)), st w.1.toNat < 18446744073709551616 := fun w hw => by
  have := there_in hw
  exact hb _ (by omega)
theorem di_start (m : Md) (f : Fn) : DI m f (fun _ => 0) :=
  ⟨fun _ _ _ _ _ h => by simp at h, fun _ _ _ _ h => by simp at h, fun _ _ => by decide⟩
theorem stA_mono {m : Md} {f : Fn} {st st' : Nat → Nat} (hb : ∀ pc, pc < f.is.length → st pc < 18446744073709551616) (hb' : ∀ pc, pc < f.is.length → st' pc < 18446744073709551616) (h : ∀ k s, (st k).testBit s = true → (st' k).testBit s = true) (pc : Nat) (i : In) (s : Nat) (hs : (stA m f st pc i).testBit s = true) : (stA m f st' pc i).testBit s = true := by
  unfold stA at hs ⊢
  rw [stV_bit _ _ _ _ _ (st_ways hb pc i)] at hs
  rw [stV_bit _ _ _ _ _ (st_ways hb' pc i)]
  rcases hs with ⟨⟨w, h1, h2, h3⟩, h4⟩ | hs
  · exact Or.inl ⟨⟨w, h1, h _ _ h2, h3⟩, h4⟩
  · exact Or.inr hs
theorem stA_cl {m : Md} {f : Fn} {st : Nat → Nat} {X : Nat → Nat → Prop} (hX : ClD m f X) (hb : ∀ pc, pc < f.is.length → st pc < 18446744073709551616) (hu : ∀ pc s, pc < f.is.length → (st pc).testBit s = true → X pc s) (pc : Nat) (i : In) (hi : f.is[pc]? = some i) (s : Nat) (hs : (stA m f st pc i).testBit s = true) : X pc s := by
  unfold stA at hs
  rw [stV_bit _ _ _ _ _ (st_ways hb pc i)] at hs
  rcases hs with ⟨⟨w, h1, h2, h3⟩, h4⟩ | hs
  · obtain ⟨hw, h0, hn⟩ := there_in h1
    obtain ⟨q, hq⟩ : ∃ q : Nat, w.1 = q := ⟨w.1.toNat, by omega⟩
    rw [hq, Int.toNat_natCast] at h2
    have hqn : q < f.is.length := by omega
    have h64 := bit_64 (hb q hqn) h2
    have hxq := hu q s hqn h2
    by_cases h41 : i.op = 41
    · rw [ways_41 m i _ h41, List.mem_map] at hw
      obtain ⟨c, hc, rfl⟩ := hw
      refine hX.se pc i c q s hi h41 hc hq hqn hxq h64 (fun hk => h3 ⟨?_, h64⟩)
      show (s : Int) = if c.k = 0 then c.v else -1
      rw [if_pos hk.1]
      exact hk.2.symm
    · exact hX.go pc i q s hi h41 ((fl_fst m f pc i hi _).2 ⟨⟨w, hw, hq⟩, by omega, by omega⟩) hxq h64 h4
  · exact hX.rd pc i s hi hs.1 hs.2
theorem di_step {m : Md} {f : Fn} {st : Nat → Nat} (h : DI m f st) (pc : Nat) (i : In) (hi : f.is[pc]? = some i) : DI m f (upd st pc (stA m f st pc i)) := by
  have hgr := h.gr pc i hi
  have hbd : ∀ k, k < f.is.length → upd st pc (stA m f st pc i) k < 18446744073709551616 := fun k hk => by
    by_cases e : k = pc
    · subst e; rw [upd_self]; exact stV_lt _ _ _ _ (st_ways h.bd k i)
    · rw [upd_ne _ _ e]; exact h.bd k hk
  have hup : ∀ k s, (st k).testBit s = true → (upd st pc (stA m f st pc i) k).testBit s = true := fun k s hs => upd_up (fun s hs => hgr s hs) k s hs
  refine ⟨fun X hX k s hk hs => ?_, fun k j hj s hs => ?_, hbd⟩
  · by_cases e : k = pc
    · subst e; rw [upd_self] at hs; exact stA_cl hX h.bd (h.up X hX) k i hi s hs
    · rw [upd_ne _ _ e] at hs; exact h.up X hX k s hk hs
  · by_cases e : k = pc
    · subst e
      rw [upd_self] at hs
      obtain rfl : i = j := Option.some.inj (hi.symm.trans hj)
      exact stA_mono h.bd hbd hup k i s hs
    · rw [upd_ne _ _ e] at hs
      exact stA_mono h.bd hbd hup k j s (h.gr k j hj s hs)
theorem sub_or {a b : Nat} (h : ∀ s, a.testBit s = true → b.testBit s = true) : a ||| b = b := by
  refine Nat.eq_of_testBit_eq (fun s => ?_)
  rw [Nat.testBit_or]
  cases e : a.testBit s
  · simp
  · rw [h s e]; rfl
theorem di_less {m : Md} {f : Fn} {st : Nat → Nat} (h : DI m f st) (pc : Nat) (i : In) (hi : f.is[pc]? = some i) (hne : stA m f st pc i ≠ st pc) : zc (stA m f st pc i) < zc (st pc) := by
  have hlt := (List.getElem?_eq_some_iff.1 hi).1
  have e := sub_or (h.gr pc i hi)
  have hb : stA m f st pc i < 18446744073709551616 := stV_lt _ _ _ _ (st_ways h.bd pc i)
  have := zc_lt (h.bd pc hlt) hb (by rw [e]; exact hne)
  rw [e] at this
  exact this
theorem di_done {m : Md} {f : Fn} {st : Nat → Nat} (h : DI m f st) (hd : ∀ pc i, f.is[pc]? = some i → st pc = stA m f st pc i) : LeastD m f st := by
  refine ⟨⟨fun pc i s hi hs hm => ?_, fun pc i q s hi h41 hq hs h64 hw => ?_, fun pc i c q s hi h41 hc hct hq hs h64 hk => ?_⟩, h.up, h.bd⟩
  · show (st pc).testBit s = true
    rw [hd pc i hi]
    exact (stV_bit _ _ _ _ _ (st_ways h.bd pc i)).2 (Or.inr ⟨hs, hm⟩)
  · show (st pc).testBit s = true
    rw [hd pc i hi]
    obtain ⟨⟨w, hw1, hw2⟩, h0, h1⟩ := (fl_fst m f pc i hi _).1 hq
    refine (stV_bit _ _ _ _ _ (st_ways h.bd pc i)).2 (Or.inl ⟨⟨w, there_mk hw1 (by omega) (by omega), ?_, fun hh => ?_⟩, hw⟩)
    · rw [hw2, Int.toNat_natCast]; exact hs
    · have := ways_m1 m i _ h41 w hw1
      omega
  · show (st pc).testBit s = true
    rw [hd pc i hi]
    refine (stV_bit _ _ _ _ _ (st_ways h.bd pc i)).2 (Or.inl ⟨⟨wyOf c, there_mk (by rw [ways_41 m i _ h41]; exact List.mem_map.2 ⟨c, hc, rfl⟩) (by show 0 ≤ c.t; omega) (by show c.t < _; omega), ?_, fun hh => ?_⟩, ?_⟩)
    · show (st c.t.toNat).testBit s = true
      rw [hct, Int.toNat_natCast]; exact hs
    · have h2 : (s : Int) = if c.k = 0 then c.v else -1 := hh.1
      by_cases hk0 : c.k = 0
      · rw [if_pos hk0] at h2
        exact hk ⟨hk0, h2.symm⟩
      · rw [if_neg hk0] at h2
        omega
    · rw [wrP_41 i h41]
      simp
theorem cases_in {m : Md} {a b : Int} {c : Ca} (h : c ∈ casesP m a b) : c ∈ m.ca := by
  unfold casesP at h
  split at h
  · simp at h
  · exact List.mem_of_mem_drop (List.mem_of_mem_take h)
theorem rd_oI {m : Md} {i : In} (oi : oIn i) (oc : ∀ s ∈ m.ca, oCa s) : ∀ s ∈ rdP m i, oI s := by
  by_cases h41 : i.op = 41
  · intro s hs
    rw [rdP_41 m i h41, List.mem_flatMap] at hs
    obtain ⟨c, hc, hs⟩ := hs
    have := oc c (cases_in hc)
    unfold crP at hs
    split at hs
    · simp at hs
    · split at hs
      · simp at hs; rcases hs with rfl | rfl
        · exact this.2.1
        · exact this.2.2.1
      · simp at hs; subst hs; exact this.2.1
  · exact (rdP_ok m i oi h41).1
theorem way_oI {m : Md} {i : In} {pc : Int} (oc : ∀ s ∈ m.ca, oCa s) : ∀ w ∈ waysP m i pc, oI w.2 := by
  have hm : oI (-1) := by unfold oI; omega
  intro w hw
  by_cases h41 : i.op = 41
  · rw [ways_41 m i _ h41, List.mem_map] at hw
    obtain ⟨c, hc, rfl⟩ := hw
    show oI (if c.k = 0 then c.v else -1)
    split
    · exact (oc c (cases_in hc)).2.2.1
    · exact hm
  · rw [ways_m1 m i _ h41 w hw]
    exact hm
theorem orW_next (st : Nat → Nat) {l : List Wy} {k : Nat} {x : Wy} (h : l[k]? = some x) : orW st (l.take (k + 1)) 0 = orW st (l.take k) 0 ||| anU (st x.1.toNat) (bitP x.2) := by
  unfold orW
  rw [List.take_add_one, h]
  simp
theorem anL_next {l : List Int} {k : Nat} {x : Int} (v : Nat) (h : l[k]? = some x) : anL (l.take (k + 1)) v = anU (anL (l.take k) v) (bitP x) := by
  unfold anL
  rw [List.take_add_one, h]
  simp
theorem orL_next {l : List Int} {k : Nat} {x : Int} (v : Nat) (h : l[k]? = some x) : orL (l.take (k + 1)) v = orL (l.take k) v ||| bitP x := by
  unfold orL
  rw [List.take_add_one, h]
  simp
theorem orL_lt (l : List Int) {v : Nat} (h : v < 18446744073709551616) : orL l v < 18446744073709551616 := msk_lt' l v h
def agB : Value → Nat
  | .bool true => 1
  | _ => 0
theorem mu_cells {w : World} {b n : Nat} {st : Nat → Nat} (h : UAt w b n st) : muP (fun k => cellN w b k) n = muP st n := mu_same n (fun k hk => by simp [cellN, (h.c k hk).1])
/-- What is known while one goes over the instructions. -/
def PcI (m : Md) (f : Fn) (W2 : World) (Bk n M : Nat) (q : Bool) (pc : Nat) (st : Nat → Nat) (wx : World) : Prop :=
  DI m f st ∧ UAt wx Bk n st ∧ G W2 wx ∧ (q = false → muP st n = M ∧ ∀ k i, k < pc → f.is[k]? = some i → st k = stA m f st k i) ∧ (q = true → muP st n < M)
set_option maxHeartbeats 8000000 in
theorem rsets_any (w : World) (m : Md) (so : Option Addr) (sc : Nat) (go : Option Addr) (gc : Nat) (co : Option Addr) (cc : Nat) (ao : Option Addr) (ac : Nat) (fo : Option Addr) (fc : Nat) (h : ModR w m so sc go gc co cc ao ac fo fc) (f : Fn) (ko : Option Addr) (kc : Nat) (io : Option Addr) (ic : Nat) (mo : Option Addr) (mc : Nat) (hi : RowAt elIn w io f.is.length ic f.is) (hf : ∀ i ∈ f.is, oIn i) (oc : ∀ s ∈ m.ca, oCa s) (hn : m.ca.length ≤ 1000) (hl : f.is.length ≤ 200) :
    Calls Try.prog 22 #[agM m so sc go gc co cc ao ac fo fc, agF f ko kc io ic mo mc] w (SetTo w m f) := by
  obtain ⟨W2, hW2⟩ : ∃ W2, W2 = ((w.alloc (.cells #[.slice so m.sh.length sc, .slice go m.gl.length gc, .slice co m.co.length cc, .slice ao m.ca.length ac, .slice fo m.fn.length fc, .int .i64 m.main] 48)).alloc (.cells #[.int .i64 f.p, .int .i64 f.c, .int .i64 f.s, .int .i64 f.r, .slice ko f.ks.length kc, .slice io f.is.length ic, .slice mo f.ms.length mc] 52)) := ⟨_, rfl⟩
  have g0 : G w W2 := by rw [hW2]; exact (G.alloc _ _).more _
  have m0 : W2.cell? ⟨w.heap.size, 0, none⟩ = some (.slice so m.sh.length sc) := by rw [hW2]; simp [go_sem]
  have m1 : W2.cell? ⟨w.heap.size, 1, none⟩ = some (.slice go m.gl.length gc) := by rw [hW2]; simp [go_sem]
  have m2 : W2.cell? ⟨w.heap.size, 2, none⟩ = some (.slice co m.co.length cc) := by rw [hW2]; simp [go_sem]
  have m3 : W2.cell? ⟨w.heap.size, 3, none⟩ = some (.slice ao m.ca.length ac) := by rw [hW2]; simp [go_sem]
  have m4 : W2.cell? ⟨w.heap.size, 4, none⟩ = some (.slice fo m.fn.length fc) := by rw [hW2]; simp [go_sem]
  have m5 : W2.cell? ⟨w.heap.size, 5, none⟩ = some (.int .i64 m.main) := by rw [hW2]; simp [go_sem]
  have f0 : W2.cell? ⟨w.heap.size + 1, 0, none⟩ = some (.int .i64 f.p) := by rw [hW2]; simp [go_sem]
  have f1 : W2.cell? ⟨w.heap.size + 1, 1, none⟩ = some (.int .i64 f.c) := by rw [hW2]; simp [go_sem]
  have f2 : W2.cell? ⟨w.heap.size + 1, 2, none⟩ = some (.int .i64 f.s) := by rw [hW2]; simp [go_sem]
  have f3 : W2.cell? ⟨w.heap.size + 1, 3, none⟩ = some (.int .i64 f.r) := by rw [hW2]; simp [go_sem]
  have f4 : W2.cell? ⟨w.heap.size + 1, 4, none⟩ = some (.slice ko f.ks.length kc) := by rw [hW2]; simp [go_sem]
  have f5 : W2.cell? ⟨w.heap.size + 1, 5, none⟩ = some (.slice io f.is.length ic) := by rw [hW2]; simp [go_sem]
  have f6 : W2.cell? ⟨w.heap.size + 1, 6, none⟩ = some (.slice mo f.ms.length mc) := by rw [hW2]; simp [go_sem]
  obtain ⟨n, hN⟩ : ∃ n, n = f.is.length := ⟨_, rfl⟩
  have BM : Hid (∀ x, G W2 x → x.cell? ⟨w.heap.size, 0, none⟩ = some (.slice so m.sh.length sc) ∧ x.cell? ⟨w.heap.size, 1, none⟩ = some (.slice go m.gl.length gc) ∧ x.cell? ⟨w.heap.size, 2, none⟩ = some (.slice co m.co.length cc) ∧ x.cell? ⟨w.heap.size, 3, none⟩ = some (.slice ao m.ca.length ac) ∧ x.cell? ⟨w.heap.size, 4, none⟩ = some (.slice fo m.fn.length fc) ∧ x.cell? ⟨w.heap.size, 5, none⟩ = some (.int .i64 m.main)) := hide fun x g => ⟨g.cell m0, g.cell m1, g.cell m2, g.cell m3, g.cell m4, g.cell m5⟩
  have BF : Hid (∀ x, G W2 x → x.cell? ⟨w.heap.size + 1, 0, none⟩ = some (.int .i64 f.p) ∧ x.cell? ⟨w.heap.size + 1, 1, none⟩ = some (.int .i64 f.c) ∧ x.cell? ⟨w.heap.size + 1, 2, none⟩ = some (.int .i64 f.s) ∧ x.cell? ⟨w.heap.size + 1, 3, none⟩ = some (.int .i64 f.r) ∧ x.cell? ⟨w.heap.size + 1, 4, none⟩ = some (.slice ko f.ks.length kc) ∧ x.cell? ⟨w.heap.size + 1, 5, none⟩ = some (.slice io n ic) ∧ x.cell? ⟨w.heap.size + 1, 6, none⟩ = some (.slice mo f.ms.length mc)) := hide fun x g => by rw [hN]; exact ⟨g.cell f0, g.cell f1, g.cell f2, g.cell f3, g.cell f4, g.cell f5, g.cell f6⟩
  have IC : Hid (∀ k, k < n → ∃ ib off op A B C D, io = some ⟨ib, off, none⟩ ∧ f.is[k]? = some ⟨op, A, B, C, D⟩ ∧ oIn ⟨op, A, B, C, D⟩ ∧ ∀ x, G W2 x → x.cell? ⟨ib, off + k * 5, none⟩ = some (.int .i64 op) ∧ x.cell? ⟨ib, off + k * 5 + 1, none⟩ = some (.int .i64 A) ∧ x.cell? ⟨ib, off + k * 5 + 2, none⟩ = some (.int .i64 B) ∧ x.cell? ⟨ib, off + k * 5 + 3, none⟩ = some (.int .i64 C) ∧ x.cell? ⟨ib, off + k * 5 + 4, none⟩ = some (.int .i64 D)) := hide fun k hk => by
    obtain ⟨ib, off, i', cs, e, ha, ecs, hcs⟩ := row_get hi (k := k) (by omega)
    obtain ⟨op, A, B, C, D⟩ := i'
    have ecs : cs = [.int .i64 op, .int .i64 A, .int .i64 B, .int .i64 C, .int .i64 D] := ecs
    subst ecs
    exact ⟨ib, off, op, A, B, C, D, e, ha, hf _ (List.mem_of_getElem? ha), fun x g => ⟨hcs x (g0.trans g) 0 _ rfl, hcs x (g0.trans g) 1 _ rfl, hcs x (g0.trans g) 2 _ rfl, hcs x (g0.trans g) 3 _ rfl, hcs x (g0.trans g) 4 _ rfl⟩⟩
  have TH : Hid (∀ x (k : Nat) i, G W2 x → f.is[k]? = some i → Calls Try.prog 38 #[.agg #[.slice so m.sh.length sc, .slice go m.gl.length gc, .slice co m.co.length cc, .slice ao m.ca.length ac, .slice fo m.fn.length fc, .int .i64 m.main], .agg #[.int .i64 f.p, .int .i64 f.c, .int .i64 f.s, .int .i64 f.r, .slice ko f.ks.length kc, .slice io n ic, .slice mo f.ms.length mc], .int .i64 (k : Int)] x (WTo x (thereP n (waysP m i (k : Int))))) := hide fun x k i g hk => by
    rw [hN]
    exact rthere_any x m so sc go gc co cc ao ac fo fc (h.g (g0.trans g)) f ko kc io ic mo mc (hi.g okIn (g0.trans g)) hf (by omega) k i hk
  have WR : Hid (∀ x op A B C D, Calls Try.prog 18 #[.agg #[.int .i64 op, .int .i64 A, .int .i64 B, .int .i64 C, .int .i64 D]] x (LTo x (wrP ⟨op, A, B, C, D⟩))) := hide fun x op A B C D => rwrites_any x ⟨op, A, B, C, D⟩
  have RD : Hid (∀ x op A B C D, G W2 x → oIn ⟨op, A, B, C, D⟩ → Calls Try.prog 17 #[.agg #[.slice so m.sh.length sc, .slice go m.gl.length gc, .slice co m.co.length cc, .slice ao m.ca.length ac, .slice fo m.fn.length fc, .int .i64 m.main], .agg #[.int .i64 op, .int .i64 A, .int .i64 B, .int .i64 C, .int .i64 D]] x (LTo x (rdP m ⟨op, A, B, C, D⟩))) := hide fun x op A B C D g oi => rreads_any x m so sc go gc co cc ao ac fo fc (h.g (g0.trans g)) ⟨op, A, B, C, D⟩ oi (by omega)
  have BT : Hid (∀ (x : World) (s : Int), oI s → Calls Try.prog 39 #[.int .i64 s] x fun e w' => e = .returned (.int .u64 (bitP s : Int)) ∧ w' = x) := hide fun x s o => rbit_any x s o
  have WL1 : Hid (∀ (k : Nat) i, (thereP n (waysP m i (k : Int))).length ≤ 100000) := hide fun k i => Nat.le_trans (List.length_filter_le _ _) (by
    unfold waysP
    have HL : (casesP m i.a i.b).length ≤ 1000 := by unfold casesP; split; simp; rw [List.length_take, List.length_drop]; omega
    repeat' split
    all_goals simp
    all_goals omega)
  have WO : Hid (∀ (k : Nat) i, ∀ x ∈ thereP n (waysP m i (k : Int)), oI x.2 ∧ 0 ≤ x.1 ∧ x.1 < (n : Int)) := hide fun k i x hx => ⟨way_oI oc x (there_in hx).1, (there_in hx).2⟩
  have RO : Hid (∀ i, oIn i → (∀ s ∈ rdP m i, oI s) ∧ (rdP m i).length ≤ 100000) := hide fun i oi => ⟨rd_oI oi oc, by
    by_cases h41 : i.op = 41
    · rw [rdP_41 _ _ h41]
      have h1 := cr_len (casesP m i.a i.b)
      have h2 : (casesP m i.a i.b).length ≤ m.ca.length := by
        unfold casesP
        split
        · simp
        · rw [List.length_take, List.length_drop]; omega
      omega
    · exact Nat.le_trans (rdP_ok m i oi h41).2 (by decide)⟩
  have STP : Hid (∀ st (k : Nat) i, DI m f st → f.is[k]? = some i → DI m f (upd st k (stA m f st k i)) ∧ (stA m f st k i ≠ st k → muP (upd st k (stA m f st k i)) n < muP st n) ∧ stA m f st k i < 18446744073709551616) := hide fun st k i hD hk => by
    have hlt := (List.getElem?_eq_some_iff.1 hk).1
    exact ⟨di_step hD k i hk, fun hne => mu_upd st k _ (di_less hD k i hk hne) n (by omega), stV_lt _ _ _ _ (st_ways hD.bd k i)⟩
  have SA : Hid (∀ st (k : Nat) i, stA m f st k i = orL (rdP m i) (anL (wrP i) (orW st (thereP n (waysP m i (k : Int))) 0))) := hide fun st k i => by rw [hN]; rfl
  have TOP : Hid (∀ st wr, DI m f st → UAt wr W2.heap.size n st → G W2 wr → (∀ k i, f.is[k]? = some i → st k = stA m f st k i) → SetTo w m f (.returned (.slice (some ⟨W2.heap.size, 0, none⟩) n n)) wr) := hide fun st wr hD U g hd => by
    rw [hN] at U ⊢
    exact ⟨st, W2.heap.size, rfl, U, g0.size, g0.trans g, di_done hD hd⟩
  have ST0 : Hid (DI m f (fun _ => 0) ∧ UAt (W2.alloc (.cells (madeCells #[.int .u64 0] n) 64)) W2.heap.size n (fun _ => 0) ∧ G W2 (W2.alloc (.cells (madeCells #[.int .u64 0] n) 64))) := hide ⟨di_start m f, u_start W2 n, G.alloc _ _⟩
  have SBD : Hid (∀ st, DI m f st → ∀ k, k < n → st k < 18446744073709551616) := hide fun st hD k hk => hD.bd k (by omega)
  have ISL : Hid (∀ k i, f.is[k]? = some i → k < n) := hide fun k i hk => by rw [hN]; exact (List.getElem?_eq_some_iff.1 hk).1
  have hmk := mk_u64s n (by omega) W2
  have hnb : Hid (n ≤ 200) := hide (by omega)
  obtain ⟨Bk, hBk⟩ : ∃ Bk, Bk = W2.heap.size := ⟨_, rfl⟩
  have hB2 : Hid (W2.heap.size ≤ Bk) := hide (by omega)
  obtain ⟨X, hX⟩ : ∃ X, X = W2.alloc (.cells (madeCells #[.int .u64 0] n) 64) := ⟨_, rfl⟩
  rw [← hBk] at TOP ST0 hmk
  rw [← hX] at ST0 hmk
  unfold agM agF
  rw [← hN] at f5 hW2 ⊢
  clear h hi hf oc hn hl g0 hBk hX m0 m1 m2 m3 m4 m5 f0 f1 f2 f3 f4 f6 hN
  replace hW2 := hide hW2
  go_enter Try.func22, Try.ntmps22
  go_upto_region 1 with fail
  rw [← unhide hW2]
  clear hW2
  go_wp2_with fail
  clear hmk f5
  go_loopw [6, 7, 8, 9, 10, 11, 12, 13] (fun ag _ _ _ _ _ _ _ wr => ∃ (q : Bool) (st : Nat → Nat), ag = .bool q ∧ Hid (DI m f st ∧ UAt wr Bk n st ∧ G W2 wr ∧ (q = false → ∀ k i, f.is[k]? = some i → st k = stA m f st k i))) (fun ag _ _ _ _ _ _ _ wr => 2 * muP (fun k => cellN wr Bk k) n + agB ag)
  case atStart => exact ⟨true, fun _ => 0, rfl, hide ⟨(unhide ST0).1, (unhide ST0).2.1, (unhide ST0).2.2, fun h => by cases h⟩⟩
  case round =>
    obtain ⟨q, st0, rfl, H0⟩ := hrel
    clear ST0
    cases q
    · have K := hide (unhide TOP st0 wr (unhide H0).1 (unhide H0).2.1 (unhide H0).2.2.1 ((unhide H0).2.2.2 rfl))
      clear BM BF IC TH WR RD BT WL1 WO RO STP SA TOP SBD ISL H0
      go_wp2_with fail
      refine bodyPost_ret (by simp [results, Try.results22, go_sem]; try rfl) rfl ?_
      exact unhide K
    · obtain ⟨M, hM⟩ : ∃ M, M = muP st0 n := ⟨_, rfl⟩
      have hM2 : Hid (muP (fun k => cellN wr Bk k) n = M) := hide (by rw [hM]; exact mu_cells (unhide H0).2.1)
      have H1 : Hid (PcI m f W2 Bk n M false 0 st0 wr) := hide ⟨(unhide H0).1, (unhide H0).2.1, (unhide H0).2.2.1, fun _ => ⟨hM.symm, fun k i hk => by omega⟩, fun h => by cases h⟩
      clear H0 hM TOP
      go_wp2_with fail
      go_loopw [6, 7, 8, 9, 10, 11, 12, 13] (fun ag pv _ _ _ _ _ _ wx => ∃ (q : Bool) (pc : Nat) (st : Nat → Nat), pc ≤ n ∧ ag = .bool q ∧ pv = .int .i64 pc ∧ Hid (PcI m f W2 Bk n M q pc st wx)) (fun _ pv _ _ _ _ _ _ _ => n - (intOf pv).toNat)
      case atStart => exact ⟨false, 0, st0, Nat.zero_le _, rfl, rfl, H1⟩
      case round =>
        clear H1
        obtain ⟨q, pc, st, hpc, rfl, rfl, HS⟩ := hrel
        obtain ⟨bf0, bf1, bf2, bf3, bf4, bf5, bf6⟩ := unhide BF wr (unhide HS).2.2.1
        by_cases hlt : pc < n
        · obtain ⟨ib, off, op, A, B, C, D, rfl, hins, oi, hcel⟩ := unhide IC pc hlt
          have hpi : (pc : Int) < (n : Int) := by omega
          have hpw : wrap64 ((pc : Int) + 1) = (pc : Int) + 1 := by have := unhide hnb; unfold wrap64; omega
          replace hcel := hide hcel
          replace hins := hide hins
          replace oi := hide oi
          have C1 := hide (unhide TH wr pc ⟨op, A, B, C, D⟩ (unhide HS).2.2.1 (unhide hins))
          obtain ⟨bm0, bm1, bm2, bm3, bm4, bm5⟩ := unhide BM wr (unhide HS).2.2.1
          have WOO := hide (unhide WO pc ⟨op, A, B, C, D⟩)
          have WLL := hide (unhide WL1 pc ⟨op, A, B, C, D⟩)
          have STQ := hide (unhide STP st pc ⟨op, A, B, C, D⟩ (unhide HS).1 (unhide hins))
          have SAQ := hide (unhide SA st pc ⟨op, A, B, C, D⟩)
          have SB1 := hide (unhide SBD st (unhide HS).1)
          have ROO := hide (unhide RO ⟨op, A, B, C, D⟩ (unhide oi))
          clear TH WO WL1 STP SA SBD RO IC
          go_wp2_with fail
          refine (unhide C1).mono ?_
          rintro e y1 ⟨wv, rfl, hW, gy1⟩
          obtain ⟨qo, qc, hwv, hget⟩ := hW.get
          obtain ⟨WL, hWL⟩ : ∃ WL, WL = thereP n (waysP m ⟨op, A, B, C, D⟩ (pc : Int)) := ⟨_, rfl⟩
          rw [← hWL] at hwv hget WOO WLL SAQ
          obtain ⟨L1, hL1⟩ : ∃ L1, L1 = WL.length := ⟨_, rfl⟩
          have U1 : Hid (UAt y1 Bk n st ∧ G W2 y1) := hide ⟨(unhide HS).2.1.g gy1, (unhide HS).2.2.1.trans gy1⟩
          have SG : Hid (∀ k x, k < n → G y1 x → x.cell? ⟨Bk, k, none⟩ = some (.int .u64 (st k : Int))) := hide fun k x hk g => (((unhide U1).1.g g).c k hk).1
          have WG : Hid (∀ j x, j < L1 → G y1 x → ∃ (pb po tt : Nat) (s : Int), qo = some ⟨pb, po, none⟩ ∧ x.cell? ⟨pb, po + j * 2, none⟩ = some (.int .i64 (tt : Int)) ∧ x.cell? ⟨pb, po + j * 2 + 1, none⟩ = some (.int .i64 s) ∧ tt < n ∧ oI s ∧ st tt < 18446744073709551616 ∧ orW st (WL.take (j + 1)) 0 = orW st (WL.take j) 0 ||| anU (st tt) (bitP s)) := hide fun j x hj g => by
            obtain ⟨pb, po, a, e1, e2, e3⟩ := hget j (by omega)
            obtain ⟨z1, z2, z3⟩ := unhide WOO a (List.mem_of_getElem? e2)
            have en := orW_next st e2
            obtain ⟨a1, a2⟩ := a
            obtain ⟨tt, rfl⟩ : ∃ tt : Nat, a1 = tt := ⟨a1.toNat, by simp at z2; omega⟩
            have htt : tt < n := by simp at z3; omega
            exact ⟨pb, po, tt, a2, e1, (e3 x g).1, (e3 x g).2, htt, z1, unhide SB1 tt htt, by simpa using en⟩
          have VB : Hid (∀ j, orW st (WL.take j) 0 < 18446744073709551616) := hide fun j => orW_lt st _ 0 (fun x hx => by
            obtain ⟨z1, z2, z3⟩ := unhide WOO x (List.mem_of_mem_take hx)
            exact unhide SB1 _ (by omega)) (by decide)
          have WE : Hid (orW st (WL.take L1) 0 = orW st WL 0) := hide (by rw [hL1, List.take_of_length_le (Nat.le_refl _)])
          have hL1b : Hid (L1 ≤ 100000) := hide (by rw [hL1]; exact unhide WLL)
          rw [← hL1] at hwv
          subst hwv
          clear hL1 hWL hget hW C1 gy1 bm0 bm1 bm2 bm3 bm4 bm5 bf0 bf1 bf2 bf3 bf4 bf5 bf6 WOO WLL
          go_wp2_with fail
          go_loopw [8, 10] (fun v i wx => ∃ j : Nat, j ≤ L1 ∧ i = .int .i64 j ∧ v = .int .u64 (orW st (WL.take j) 0 : Int) ∧ Hid (G y1 wx)) (fun _ i _ => L1 - (intOf i).toNat)
          case atStart => exact ⟨0, Nat.zero_le _, rfl, rfl, hide (G.refl y1)⟩
          case round =>
            obtain ⟨j, hj, rfl, rfl, gv⟩ := hrel
            by_cases hjl : j < L1
            · obtain ⟨pb, po, tt, s, rfl, c0, c1, htt, os, hst, hnx⟩ := unhide WG j wr hjl (unhide gv)
              have cB := unhide SG tt wr htt (unhide gv)
              have hji : (j : Int) < (L1 : Int) := by omega
              have hjw : wrap64 ((j : Int) + 1) = (j : Int) + 1 := by have := unhide hL1b; unfold wrap64; omega
              have hti : (tt : Int) < (n : Int) := by omega
              have hVj := unhide VB j
              have CBt := hide (unhide BT wr.drew s os)
              obtain ⟨V, hV⟩ : ∃ V, V = orW st (WL.take j) 0 := ⟨_, rfl⟩
              obtain ⟨ST, hST⟩ : ∃ ST, ST = st tt := ⟨_, rfl⟩
              obtain ⟨BP, hBP⟩ : ∃ BP, BP = bitP s := ⟨_, rfl⟩
              rw [← hV] at hVj hnx ⊢
              rw [← hST] at cB hst hnx
              rw [← hBP] at CBt hnx
              have hBPb : BP < 18446744073709551616 := by rw [hBP]; exact bitP_lt _
              have hX1 : bits .andNot .u64 (ST : Int) (BP : Int) = ((anU ST BP : Nat) : Int) := u64_andNot_nat ST BP hst hBPb
              have hX2 : bits .or .u64 (V : Int) ((anU ST BP : Nat) : Int) = ((V ||| anU ST BP : Nat) : Int) := bits_or_u64_nat V (anU ST BP) hVj (anU_lt _ hst)
              obtain ⟨AN, hAN⟩ : ∃ AN, AN = anU ST BP := ⟨_, rfl⟩
              obtain ⟨VN, hVN⟩ : ∃ VN, VN = V ||| anU ST BP := ⟨_, rfl⟩
              rw [← hVN] at hX2
              rw [← hAN] at hX1 hX2
              have hNX : Hid (VN = orW st (WL.take (j + 1)) 0) := hide (by rw [hVN, hnx])
              have gN : Hid (G y1 wr.drew) := hide ((unhide gv).drew)
              have gd : G wr wr.drew := (G.refl wr).drew
              have d0 := gd.cell c0
              have d1 := gd.cell c1
              have dB := gd.cell cB
              clear WG VB SG U1 STQ SAQ SB1 ROO BM BF WR RD BT ISL HS hnx hV hST hBP hBPb hst hVj hAN hVN c0 c1 cB gd WE os
              go_upto_region 13 with fail
              refine wp_region_noPanic ?_
              refine wp_region_held_drew (S := fun x => x = wr.drew) (by kernel_rfl) rfl (fun hHeld => ?_)
              clear hHeld
              obtain ⟨y4, hy4⟩ : ∃ y, y = wr.drew := ⟨_, rfl⟩
              rw [← hy4] at d0 d1 dB CBt gN ⊢
              clear hy4
              refine wpAnyH_take (i := 0) (v := .int .u64 (V : Int)) rfl (by kernel_rfl) (by kernel_rfl) (by kernel_rfl) (fun _ _ _ h => h) (Or.inl ⟨by rfl, fun w hSw => by subst hSw; go_simp⟩) rfl ?_
              try simp only [Act.put, List.getElem_toArray, List.getElem_cons_zero, List.setIfInBounds_toArray, List.set_cons_zero, List.set_cons_succ]
              refine wpAnyH_take (i := 1) (v := .slice (some ⟨Bk, 0, none⟩) n n) rfl (by kernel_rfl) (by kernel_rfl) (by kernel_rfl) (fun _ _ _ h => h) (Or.inl ⟨by rfl, fun w hSw => by subst hSw; go_simp⟩) rfl ?_
              try simp only [Act.put, List.getElem_toArray, List.getElem_cons_succ, List.getElem_cons_zero, List.setIfInBounds_toArray, List.set_cons_zero, List.set_cons_succ]
              refine wpAnyH_take (i := 2) (v := .slice (some ⟨pb, po, none⟩) L1 qc) rfl (by kernel_rfl) (by kernel_rfl) (by kernel_rfl) (fun _ _ _ h => h) (Or.inl ⟨by rfl, fun w hSw => by subst hSw; go_simp⟩) rfl ?_
              try simp only [Act.put, List.getElem_toArray, List.getElem_cons_succ, List.getElem_cons_zero, List.setIfInBounds_toArray, List.set_cons_zero, List.set_cons_succ]
              refine wpAnyH_take (i := 3) (v := .int .i64 (j : Int)) rfl (by kernel_rfl) (by kernel_rfl) (by kernel_rfl) (fun _ _ _ h => h) (Or.inl ⟨by rfl, fun w hSw => by subst hSw; go_simp⟩) rfl ?_
              try simp only [Act.put, List.getElem_toArray, List.getElem_cons_succ, List.getElem_cons_zero, List.setIfInBounds_toArray, List.set_cons_zero, List.set_cons_succ]
              refine wpAnyH_take (i := 4) (v := .pointer (some ⟨pb, po + j * 2, none⟩)) rfl (by kernel_rfl) (by kernel_rfl) (by kernel_rfl) (fun _ _ _ h => h) (Or.inl ⟨by rfl, fun w hSw => by subst hSw; go_simp⟩) rfl ?_
              try simp only [Act.put, List.getElem_toArray, List.getElem_cons_succ, List.getElem_cons_zero, List.setIfInBounds_toArray, List.set_cons_zero, List.set_cons_succ]
              refine wpAnyH_take (i := 5) (v := .pointer (some ⟨pb, po + j * 2, none⟩)) rfl (by kernel_rfl) (by kernel_rfl) (by kernel_rfl) (fun _ _ _ h => h) (Or.inl ⟨by rfl, fun w hSw => by subst hSw; go_simp⟩) rfl ?_
              try simp only [Act.put, List.getElem_toArray, List.getElem_cons_succ, List.getElem_cons_zero, List.setIfInBounds_toArray, List.set_cons_zero, List.set_cons_succ]
              refine wpAnyH_take (i := 6) (v := .int .i64 (tt : Int)) rfl (by kernel_rfl) (by kernel_rfl) (by kernel_rfl) (fun _ _ _ h => h) (Or.inl ⟨by rfl, fun w hSw => by subst hSw; go_simp⟩) rfl ?_
              try simp only [Act.put, List.getElem_toArray, List.getElem_cons_succ, List.getElem_cons_zero, List.setIfInBounds_toArray, List.set_cons_zero, List.set_cons_succ]
              refine wpAnyH_take (i := 7) (v := .pointer (some ⟨Bk, tt, none⟩)) rfl (by kernel_rfl) (by kernel_rfl) (by kernel_rfl) (fun _ _ _ h => h) (Or.inl ⟨by rfl, fun w hSw => by subst hSw; go_simp⟩) rfl ?_
              try simp only [Act.put, List.getElem_toArray, List.getElem_cons_succ, List.getElem_cons_zero, List.setIfInBounds_toArray, List.set_cons_zero, List.set_cons_succ]
              refine wpAnyH_take (i := 8) (v := .int .u64 (ST : Int)) rfl (by kernel_rfl) (by kernel_rfl) (by kernel_rfl) (fun _ _ _ h => h) (Or.inl ⟨by rfl, fun w hSw => by subst hSw; go_simp⟩) rfl ?_
              try simp only [Act.put, List.getElem_toArray, List.getElem_cons_succ, List.getElem_cons_zero, List.setIfInBounds_toArray, List.set_cons_zero, List.set_cons_succ]
              refine wpAnyH_take (i := 9) (v := .slice (some ⟨pb, po, none⟩) L1 qc) rfl (by kernel_rfl) (by kernel_rfl) (by kernel_rfl) (fun _ _ _ h => h) (Or.inl ⟨by rfl, fun w hSw => by subst hSw; go_simp⟩) rfl ?_
              try simp only [Act.put, List.getElem_toArray, List.getElem_cons_succ, List.getElem_cons_zero, List.setIfInBounds_toArray, List.set_cons_zero, List.set_cons_succ]
              refine wpAnyH_take (i := 10) (v := .int .i64 (j : Int)) rfl (by kernel_rfl) (by kernel_rfl) (by kernel_rfl) (fun _ _ _ h => h) (Or.inl ⟨by rfl, fun w hSw => by subst hSw; go_simp⟩) rfl ?_
              try simp only [Act.put, List.getElem_toArray, List.getElem_cons_succ, List.getElem_cons_zero, List.setIfInBounds_toArray, List.set_cons_zero, List.set_cons_succ]
              refine wpAnyH_take (i := 11) (v := .pointer (some ⟨pb, po + j * 2, none⟩)) rfl (by kernel_rfl) (by kernel_rfl) (by kernel_rfl) (fun _ _ _ h => h) (Or.inl ⟨by rfl, fun w hSw => by subst hSw; go_simp⟩) rfl ?_
              try simp only [Act.put, List.getElem_toArray, List.getElem_cons_succ, List.getElem_cons_zero, List.setIfInBounds_toArray, List.set_cons_zero, List.set_cons_succ]
              refine wpAnyH_take (i := 12) (v := .pointer (some ⟨pb, po + j * 2 + 1, none⟩)) rfl (by kernel_rfl) (by kernel_rfl) (by kernel_rfl) (fun _ _ _ h => h) (Or.inl ⟨by rfl, fun w hSw => by subst hSw; go_simp⟩) rfl ?_
              try simp only [Act.put, List.getElem_toArray, List.getElem_cons_succ, List.getElem_cons_zero, List.setIfInBounds_toArray, List.set_cons_zero, List.set_cons_succ]
              refine wpAnyH_take (i := 13) (v := .int .i64 s) rfl (by kernel_rfl) (by kernel_rfl) (by kernel_rfl) (fun _ _ _ h => h) (Or.inl ⟨by rfl, fun w hSw => by subst hSw; go_simp⟩) rfl ?_
              try simp only [Act.put, List.getElem_toArray, List.getElem_cons_succ, List.getElem_cons_zero, List.setIfInBounds_toArray, List.set_cons_zero, List.set_cons_succ]
              refine wpAnyH_ready (rs := [14]) (by kernel_rfl) (by simp) ?_
              refine AllReadyH.cons rfl (fun K hK => ?_) AllReadyH.nil
              go_simp
              refine (unhide CBt).mono ?_
              rintro e y5 ⟨rfl, rfl⟩
              go_wp2_with fail
              refine hK.out _ _ rfl (fun hH1 => ?_)
              clear hK K hH1
              try simp only [Act.put, List.getElem_toArray, List.getElem_cons_succ, List.getElem_cons_zero, List.setIfInBounds_toArray, List.set_cons_zero, List.set_cons_succ]
              refine wpAnyH_take (i := 15) (v := .int .u64 (AN : Int)) rfl (by kernel_rfl) (by kernel_rfl) (by kernel_rfl) (fun _ _ _ h => h) (Or.inl ⟨by rfl, fun w hSw => by subst hSw; go_simp⟩) rfl ?_
              try simp only [Act.put, List.getElem_toArray, List.getElem_cons_succ, List.getElem_cons_zero, List.setIfInBounds_toArray, List.set_cons_zero, List.set_cons_succ]
              refine wpAnyH_take (i := 16) (v := .int .u64 (VN : Int)) rfl (by kernel_rfl) (by kernel_rfl) (by kernel_rfl) (fun _ _ _ h => h) (Or.inl ⟨by rfl, fun w hSw => by subst hSw; go_simp⟩) rfl ?_
              try simp only [Act.put, List.getElem_toArray, List.getElem_cons_succ, List.getElem_cons_zero, List.setIfInBounds_toArray, List.set_cons_zero, List.set_cons_succ]
              refine wpAnyH_take (i := 17) (v := .int .u64 (VN : Int)) rfl (by kernel_rfl) (by kernel_rfl) (by kernel_rfl) (fun _ _ _ h => h) (Or.inl ⟨by rfl, fun w hSw => by subst hSw; go_simp⟩) rfl ?_
              try simp only [Act.put, List.getElem_toArray, List.getElem_cons_succ, List.getElem_cons_zero, List.setIfInBounds_toArray, List.set_cons_zero, List.set_cons_succ]
              refine wpAnyH_done (by kernel_rfl) (NoPanic.normal ?_) _
              go_wp2_with fail
              go_roundw
              case rel => exact ⟨j + 1, hjl, by go_num, by rw [unhide hNX], gN⟩
              case measure => first | exact dec_ltW L1 j hjl | (rw [hjw]; exact dec_ltW L1 j hjl)
            · obtain rfl : j = L1 := by omega
              rw [unhide WE]
              have gW1 : Hid (G W2 wr) := hide ((unhide U1).2.trans (unhide gv))
              have U2 : Hid (UAt wr Bk n st ∧ G W2 wr) := hide ⟨(unhide U1).1.g (unhide gv), unhide gW1⟩
              have VB1 : Hid (orW st WL 0 < 18446744073709551616) := hide (by have := unhide VB j; rw [unhide WE] at this; exact this)
              obtain ⟨V1, hV1⟩ : ∃ V1, V1 = orW st WL 0 := ⟨_, rfl⟩
              rw [← hV1] at VB1 SAQ ⊢
              obtain ⟨i0, i1, i2, i3, i4⟩ := unhide hcel wr (unhide gW1)
              obtain ⟨bf0, bf1, bf2, bf3, bf4, bf5, bf6⟩ := unhide BF wr (unhide gW1)
              have C2 := hide (unhide WR wr op A B C D)
              clear WG VB SG U1 gv WE hL1b hV1
              go_wp2_with fail
              refine (unhide C2).mono ?_
              rintro e y2 ⟨lv, rfl, hL2, gy2⟩
              obtain ⟨lo, lc, hlv, _, hget2⟩ := hL2.get
              obtain ⟨XL, hXL⟩ : ∃ XL, XL = wrP ⟨op, A, B, C, D⟩ := ⟨_, rfl⟩
              have XO : Hid ((∀ s ∈ XL, oI s) ∧ XL.length ≤ 65) := hide (by rw [hXL]; exact wrP_ok _ (unhide oi))
              rw [← hXL] at hlv hget2 SAQ
              obtain ⟨L2, hL2l⟩ : ∃ L2, L2 = XL.length := ⟨_, rfl⟩
              have U3 : Hid (UAt y2 Bk n st ∧ G W2 y2) := hide ⟨(unhide U2).1.g gy2, (unhide U2).2.trans gy2⟩
              have XG : Hid (∀ j x, j < L2 → G y2 x → ∃ (pb po : Nat) (s : Int), lo = some ⟨pb, po, none⟩ ∧ x.cell? ⟨pb, po + j, none⟩ = some (.int .i64 s) ∧ oI s ∧ anL (XL.take (j + 1)) V1 = anU (anL (XL.take j) V1) (bitP s)) := hide fun j x hj g => by
                obtain ⟨pb, po, a, e1, e2, e3⟩ := hget2 j (by omega)
                exact ⟨pb, po, a, e1, e3 x g, (unhide XO).1 a (List.mem_of_getElem? e2), anL_next V1 e2⟩
              have XB : Hid (∀ j, anL (XL.take j) V1 < 18446744073709551616) := hide fun j => anL_lt _ _ (unhide VB1)
              have XE : Hid (anL (XL.take L2) V1 = anL XL V1) := hide (by rw [hL2l, List.take_of_length_le (Nat.le_refl _)])
              have hL2b : Hid (L2 ≤ 65) := hide (by rw [hL2l]; exact (unhide XO).2)
              rw [← hL2l] at hlv
              subst hlv
              clear hL2l hXL hget2 hL2 C2 gy2 U2 gW1 i0 i1 i2 i3 i4 bf0 bf1 bf2 bf3 bf4 bf5 bf6 XO
              go_wp2_with fail
              go_loopw [8, 12] (fun v i wx => ∃ j : Nat, j ≤ L2 ∧ i = .int .i64 j ∧ v = .int .u64 (anL (XL.take j) V1 : Int) ∧ Hid (G y2 wx)) (fun _ i _ => L2 - (intOf i).toNat)
              case atStart => exact ⟨0, Nat.zero_le _, rfl, rfl, hide (G.refl y2)⟩
              case round =>
                obtain ⟨j, hj, rfl, rfl, gv⟩ := hrel
                by_cases hjl : j < L2
                · obtain ⟨pb, po, s, rfl, c0, os, hnx⟩ := unhide XG j wr hjl (unhide gv)
                  have hji : (j : Int) < (L2 : Int) := by omega
                  have hjw : wrap64 ((j : Int) + 1) = (j : Int) + 1 := by have := unhide hL2b; unfold wrap64; omega
                  have hVj := unhide XB j
                  have CBt := hide (unhide BT wr s os)
                  obtain ⟨V, hV⟩ : ∃ V, V = anL (XL.take j) V1 := ⟨_, rfl⟩
                  obtain ⟨BP, hBP⟩ : ∃ BP, BP = bitP s := ⟨_, rfl⟩
                  rw [← hV] at hVj hnx ⊢
                  rw [← hBP] at CBt hnx
                  have hBPb : BP < 18446744073709551616 := by rw [hBP]; exact bitP_lt _
                  have hX1 : bits .andNot .u64 (V : Int) (BP : Int) = ((anU V BP : Nat) : Int) := u64_andNot_nat V BP hVj hBPb
                  obtain ⟨VN, hVN⟩ : ∃ VN, VN = anU V BP := ⟨_, rfl⟩
                  rw [← hVN] at hX1
                  have hNX : Hid (VN = anL (XL.take (j + 1)) V1) := hide (by rw [hVN, hnx])
                  clear XG XB U3 STQ SAQ SB1 ROO BM BF WR RD BT ISL HS hnx hV hBP hBPb hVj hVN XE os VB1
                  go_wp2_with fail
                  refine (unhide CBt).mono ?_
                  rintro e y5 ⟨rfl, rfl⟩
                  go_wp2_with fail
                  go_roundw
                  case rel => exact ⟨j + 1, hjl, by go_num, by first | rw [unhide hNX] | rw [hX1, unhide hNX], gv⟩
                  case measure => first | exact dec_ltW L2 j hjl | (rw [hjw]; exact dec_ltW L2 j hjl)
                · obtain rfl : j = L2 := by omega
                  rw [unhide XE]
                  have gW1 : Hid (G W2 wr) := hide ((unhide U3).2.trans (unhide gv))
                  have U4 : Hid (UAt wr Bk n st) := hide ((unhide U3).1.g (unhide gv))
                  have VB2 : Hid (anL XL V1 < 18446744073709551616) := hide (by have := unhide XB j; rw [unhide XE] at this; exact this)
                  obtain ⟨V2, hV2⟩ : ∃ V2, V2 = anL XL V1 := ⟨_, rfl⟩
                  rw [← hV2] at VB2 SAQ ⊢
                  have gd : Hid (G W2 wr.drew) := hide ((unhide gW1).drew)
                  have U5 : Hid (UAt wr.drew Bk n st) := hide ((unhide U4).g (G.refl wr).drew)
                  have hj2 : ¬ (j : Int) < (j : Int) := by omega
                  clear XG XB U3 gv XE hL2b hV2 VB1 U4 gW1
                  go_upto_region 19 with fail
                  refine wp_region_noPanic ?_
                  refine wp_region_held_drew (S := fun x => G W2 x) (by kernel_rfl) (unhide gd) (fun hHeld => ?_)
                  obtain ⟨y4, hy4⟩ : ∃ y, y = wr.drew := ⟨_, rfl⟩
                  rw [← hy4] at hHeld U5 ⊢
                  clear hy4 gd
                  refine wpAnyH_take (i := 0) (v := .agg #[.slice so m.sh.length sc, .slice go m.gl.length gc, .slice co m.co.length cc, .slice ao m.ca.length ac, .slice fo m.fn.length fc, .int .i64 m.main]) rfl (by kernel_rfl) (by kernel_rfl) (by kernel_rfl) (fun _ _ _ h => h) (Or.inl ⟨by rfl, fun w hSw => by obtain ⟨t0, t1, t2, t3, t4, t5⟩ := unhide BM w hSw; go_simp⟩) (by assumption) ?_
                  try simp only [Act.put, List.getElem_toArray, List.getElem_cons_zero, List.setIfInBounds_toArray, List.set_cons_zero, List.set_cons_succ]
                  refine wpAnyH_take (i := 1) (v := .pointer (some ⟨w.heap.size + 1, 5, none⟩)) rfl (by kernel_rfl) (by kernel_rfl) (by kernel_rfl) (fun _ _ _ h => h) (Or.inl ⟨by rfl, fun w hSw => by go_simp⟩) (by assumption) ?_
                  try simp only [Act.put, List.getElem_toArray, List.getElem_cons_succ, List.getElem_cons_zero, List.setIfInBounds_toArray, List.set_cons_zero, List.set_cons_succ]
                  refine wpAnyH_take (i := 2) (v := .slice (some ⟨ib, off, none⟩) n ic) rfl (by kernel_rfl) (by kernel_rfl) (by kernel_rfl) (fun _ _ _ h => h) (Or.inl ⟨by rfl, fun w hSw => by obtain ⟨t0, t1, t2, t3, t4, t5, t6⟩ := unhide BF w hSw; go_simp⟩) (by assumption) ?_
                  try simp only [Act.put, List.getElem_toArray, List.getElem_cons_succ, List.getElem_cons_zero, List.setIfInBounds_toArray, List.set_cons_zero, List.set_cons_succ]
                  refine wpAnyH_take (i := 3) (v := .int .i64 (pc : Int)) rfl (by kernel_rfl) (by kernel_rfl) (by kernel_rfl) (fun _ _ _ h => h) (Or.inl ⟨by rfl, fun w hSw => by go_simp⟩) (by assumption) ?_
                  try simp only [Act.put, List.getElem_toArray, List.getElem_cons_succ, List.getElem_cons_zero, List.setIfInBounds_toArray, List.set_cons_zero, List.set_cons_succ]
                  refine wpAnyH_take (i := 4) (v := .pointer (some ⟨ib, off + pc * 5, none⟩)) rfl (by kernel_rfl) (by kernel_rfl) (by kernel_rfl) (fun _ _ _ h => h) (Or.inl ⟨by rfl, fun w hSw => by go_simp⟩) (by assumption) ?_
                  try simp only [Act.put, List.getElem_toArray, List.getElem_cons_succ, List.getElem_cons_zero, List.setIfInBounds_toArray, List.set_cons_zero, List.set_cons_succ]
                  refine wpAnyH_take (i := 5) (v := .agg #[.int .i64 op, .int .i64 A, .int .i64 B, .int .i64 C, .int .i64 D]) rfl (by kernel_rfl) (by kernel_rfl) (by kernel_rfl) (fun _ _ _ h => h) (Or.inl ⟨by rfl, fun w hSw => by obtain ⟨t0, t1, t2, t3, t4⟩ := unhide hcel w hSw; go_simp⟩) (by assumption) ?_
                  try simp only [Act.put, List.getElem_toArray, List.getElem_cons_succ, List.getElem_cons_zero, List.setIfInBounds_toArray, List.set_cons_zero, List.set_cons_succ]
                  refine wpAnyH_ready (rs := [6]) (by kernel_rfl) (by simp) ?_
                  refine AllReadyH.cons rfl (fun K hK => ?_) AllReadyH.nil
                  go_simp
                  refine (unhide RD y4 op A B C D hHeld (unhide oi)).mono ?_
                  rintro e y6 ⟨rv, rfl, hL3, gy6⟩
                  obtain ⟨ro, rc, hrv, _, hget3⟩ := hL3.get
                  obtain ⟨RL, hRL⟩ : ∃ RL, RL = rdP m ⟨op, A, B, C, D⟩ := ⟨_, rfl⟩
                  rw [← hRL] at hrv hget3 SAQ ROO
                  obtain ⟨L3, hL3l⟩ : ∃ L3, L3 = RL.length := ⟨_, rfl⟩
                  have U6 : Hid (UAt y6 Bk n st ∧ G W2 y6) := hide ⟨(unhide U5).g gy6, hHeld.trans gy6⟩
                  have RG : Hid (∀ j x, j < L3 → G y6 x → ∃ (pb po : Nat) (s : Int), ro = some ⟨pb, po, none⟩ ∧ x.cell? ⟨pb, po + j, none⟩ = some (.int .i64 s) ∧ oI s ∧ orL (RL.take (j + 1)) V2 = orL (RL.take j) V2 ||| bitP s) := hide fun j x hj g => by
                    obtain ⟨pb, po, a, e1, e2, e3⟩ := hget3 j (by omega)
                    exact ⟨pb, po, a, e1, e3 x g, (unhide ROO).1 a (List.mem_of_getElem? e2), orL_next V2 e2⟩
                  have RE : Hid (orL (RL.take L3) V2 = orL RL V2) := hide (by rw [hL3l, List.take_of_length_le (Nat.le_refl _)])
                  have hL3b : Hid (L3 ≤ 100000) := hide (by rw [hL3l]; exact (unhide ROO).2)
                  rw [← hL3l] at hrv
                  subst hrv
                  clear hL3l hRL hget3 hL3 ROO RD SB1
                  go_wp2_with fail
                  have gy := hHeld.trans gy6
                  refine hK.out _ _ gy (fun hH1 => ?_)
                  clear hK K hHeld gy6 U5
                  have hHeld := hH1
                  clear hH1
                  try simp only [Act.put, List.getElem_toArray, List.getElem_cons_succ, List.getElem_cons_zero, List.setIfInBounds_toArray, List.set_cons_zero, List.set_cons_succ]
                  refine wpAnyH_take (i := 7) (v := .slice ro L3 rc) rfl (by kernel_rfl) (by kernel_rfl) (by kernel_rfl) (fun _ _ _ h => h) (Or.inl ⟨by rfl, fun w hSw => by go_simp⟩) (by assumption) ?_
                  try simp only [Act.put, List.getElem_toArray, List.getElem_cons_succ, List.getElem_cons_zero, List.setIfInBounds_toArray, List.set_cons_zero, List.set_cons_succ]
                  refine wpAnyH_done (by kernel_rfl) (NoPanic.normal ?_) _
                  clear hHeld
                  go_wp2_with fail
                  go_loopw [8, 13] (fun v i wx => ∃ j : Nat, j ≤ L3 ∧ i = .int .i64 j ∧ v = .int .u64 (orL (RL.take j) V2 : Int) ∧ Hid (G y6 wx)) (fun _ i _ => L3 - (intOf i).toNat)
                  case atStart => exact ⟨0, Nat.zero_le _, rfl, rfl, hide (G.refl y6)⟩
                  case round =>
                    obtain ⟨j, hj, rfl, rfl, gv⟩ := hrel
                    by_cases hjl : j < L3
                    · obtain ⟨pb, po, s, rfl, c0, os, hnx⟩ := unhide RG j wr hjl (unhide gv)
                      have hji : (j : Int) < (L3 : Int) := by omega
                      have hjw : wrap64 ((j : Int) + 1) = (j : Int) + 1 := by have := unhide hL3b; unfold wrap64; omega
                      have hVj := orL_lt (RL.take j) (unhide VB2)
                      have CBt := hide (unhide BT wr s os)
                      obtain ⟨V, hV⟩ : ∃ V, V = orL (RL.take j) V2 := ⟨_, rfl⟩
                      obtain ⟨BP, hBP⟩ : ∃ BP, BP = bitP s := ⟨_, rfl⟩
                      rw [← hV] at hVj hnx ⊢
                      rw [← hBP] at CBt hnx
                      have hBPb : BP < 18446744073709551616 := by rw [hBP]; exact bitP_lt _
                      have hX1 : bits .or .u64 (V : Int) (BP : Int) = ((V ||| BP : Nat) : Int) := bits_or_u64_nat V BP hVj hBPb
                      obtain ⟨VN, hVN⟩ : ∃ VN, VN = V ||| BP := ⟨_, rfl⟩
                      rw [← hVN] at hX1
                      have hNX : Hid (VN = orL (RL.take (j + 1)) V2) := hide (by rw [hVN, hnx])
                      clear RG U6 STQ SAQ BM BF WR BT ISL HS hnx hV hBP hBPb hVj hVN RE os VB2
                      go_wp2_with fail
                      refine (unhide CBt).mono ?_
                      rintro e y7 ⟨rfl, rfl⟩
                      go_wp2_with fail
                      go_roundw
                      case rel => exact ⟨j + 1, hjl, by go_num, by first | rw [unhide hNX] | rw [hX1, unhide hNX], gv⟩
                      case measure => first | exact dec_ltW L3 j hjl | (rw [hjw]; exact dec_ltW L3 j hjl)
                    · obtain rfl : j = L3 := by omega
                      rw [unhide RE]
                      have U7 : Hid (UAt wr Bk n st ∧ G W2 wr) := hide ⟨(unhide U6).1.g (unhide gv), (unhide U6).2.trans (unhide gv)⟩
                      obtain ⟨cB, cfz⟩ := (unhide U7).1.c pc hlt
                      obtain ⟨V3, hV3⟩ : ∃ V3, V3 = orL RL V2 := ⟨_, rfl⟩
                      rw [← hV3] at SAQ ⊢
                      rw [unhide SAQ] at STQ
                      have FX : Hid (V3 = st pc → PcI m f W2 Bk n M q (pc + 1) st wr) := hide fun e => by
                        obtain ⟨z1, z2, z3, z4, z5⟩ := unhide HS
                        refine ⟨z1, (unhide U7).1, (unhide U7).2, fun hq => ⟨(z4 hq).1, fun k i hk hi => ?_⟩, z5⟩
                        by_cases hkp : k < pc
                        · exact (z4 hq).2 k i hkp hi
                        · obtain rfl : k = pc := by omega
                          obtain rfl : (⟨op, A, B, C, D⟩ : In) = i := Option.some.inj ((unhide hins).symm.trans hi)
                          rw [unhide SAQ, e]
                      have FY : Hid (V3 ≠ st pc → PcI m f W2 Bk n M true (pc + 1) (upd st pc V3) (wr.setCell ⟨Bk, pc, none⟩ (.int .u64 (V3 : Int)))) := hide fun e => by
                        obtain ⟨z1, z2, z3, z4, z5⟩ := unhide HS
                        obtain ⟨y1, y2, y3⟩ := unhide STQ
                        refine ⟨y1, (unhide U7).1.put pc V3 hlt, G.set (unhide U7).2 _ _ _ (unhide hB2), (fun h => by cases h), fun _ => ?_⟩
                        have := y2 e
                        cases q
                        · have := (z4 rfl).1; omega
                        · have := z5 rfl; omega
                      obtain ⟨SP, hSP⟩ : ∃ SP, SP = st pc := ⟨_, rfl⟩
                      rw [← hSP] at cB FX FY
                      clear RG U6 STQ SAQ BM BF WR BT ISL HS RE VB2 gv U7 hV3 hSP hL3b
                      by_cases e : V3 = SP
                      · have HE := hide (unhide FX e)
                        subst e
                        have hne : ((V3 : Int) != (V3 : Int)) = false := by simp
                        clear FX FY
                        go_wp2_with fail
                        go_roundw
                        case rel => exact ⟨q, pc + 1, st, hlt, rfl, by go_num, HE⟩
                        case measure => first | exact dec_ltW n pc hlt | (rw [hpw]; exact dec_ltW n pc hlt)
                      · have HE := hide (unhide FY e)
                        have hne : ((V3 : Int) != (SP : Int)) = true := by simp; omega
                        have hne2 : ¬ (V3 : Int) = (SP : Int) := by omega
                        clear FX FY
                        go_wp2_with fail
                        go_roundw
                        case rel => exact ⟨true, pc + 1, _, hlt, rfl, by go_num, HE⟩
                        case measure => first | exact dec_ltW n pc hlt | (rw [hpw]; exact dec_ltW n pc hlt)
        · obtain rfl : pc = n := by omega
          have HE : Hid (DI m f st ∧ UAt wr Bk pc st ∧ G W2 wr ∧ (q = false → ∀ k i, f.is[k]? = some i → st k = stA m f st k i)) := hide ⟨(unhide HS).1, (unhide HS).2.1, (unhide HS).2.2.1, fun hq k i hk => ((unhide HS).2.2.2.1 hq).2 k i (unhide ISL k i hk) hk⟩
          have HM : Hid (2 * muP (fun k => cellN wr Bk k) pc + agB (.bool q) < 2 * M + 1) := hide (by
            rw [mu_cells (unhide HS).2.1]
            cases q
            · have := ((unhide HS).2.2.2.1 rfl).1; show 2 * muP st pc + 0 < 2 * M + 1; omega
            · have := (unhide HS).2.2.2.2 rfl; show 2 * muP st pc + 1 < 2 * M + 1; omega)
          clear HS BM BF IC TH WR RD BT WL1 WO RO STP SA SBD ISL
          go_wp2_with fail
          go_roundw
          case rel => exact ⟨q, st, rfl, HE⟩
          case measure => exact Nat.lt_of_lt_of_eq (unhide HM) (by rw [unhide hM2]; rfl)
/-- A set without the slots below n whose kind is not true. -/
def clrN (ks : List Bool) (v : Nat) : Nat → Nat
  | 0 => v
  | s + 1 => if ks[s]? = some true then clrN ks v s else anU (clrN ks v s) (bitP (s : Int))
theorem clr_lt (ks : List Bool) {v : Nat} (hv : v < 18446744073709551616) : ∀ n, clrN ks v n < 18446744073709551616
  | 0 => hv
  | n + 1 => by
    unfold clrN
    split
    · exact clr_lt ks hv n
    · exact anU_lt _ (clr_lt ks hv n)
theorem clr_bit (ks : List Bool) {v : Nat} (hv : v < 18446744073709551616) (s : Nat) : ∀ n, (clrN ks v n).testBit s = true ↔ v.testBit s = true ∧ (s < n → ks[s]? = some true)
  | 0 => by simp [clrN]
  | n + 1 => by
    have ih := clr_bit ks hv s n
    unfold clrN
    split
    · rename_i h
      rw [ih]
      constructor
      · rintro ⟨h1, h2⟩
        refine ⟨h1, fun h3 => ?_⟩
        by_cases e : s = n
        · subst e; exact h
        · exact h2 (by omega)
      · rintro ⟨h1, h2⟩
        exact ⟨h1, fun h3 => h2 (by omega)⟩
    · rename_i h
      rw [anU_bit s (clr_lt ks hv n) (bitP_lt _), ih, bitP_no]
      constructor
      · rintro ⟨⟨h1, h2⟩, h3⟩
        have h64 := bit_64 hv h1
        refine ⟨h1, fun h4 => h2 ?_⟩
        have : s ≠ n := fun e => h3 ⟨by omega, h64⟩
        omega
      · rintro ⟨h1, h2⟩
        refine ⟨⟨h1, fun h3 => h2 (by omega)⟩, fun h3 => h ?_⟩
        obtain rfl : s = n := by omega
        exact h2 (by omega)
theorem knd_bit (l : List Bool) (s : Nat) : ∀ n, (kndN l n).testBit s = true ↔ s < n ∧ s < 64 ∧ l[s]? = some true
  | 0 => by simp [kndN]
  | n + 1 => by
    have ih := knd_bit l s n
    rw [knd_succ]
    split
    · rename_i h
      rw [Nat.testBit_or, Bool.or_eq_true, ih, bitP_bit]
      constructor
      · rintro (h1 | h1)
        · exact ⟨by omega, h1.2⟩
        · obtain rfl : s = n := by omega
          exact ⟨by omega, h1.2, h⟩
      · rintro ⟨h1, h2, h3⟩
        by_cases e : s = n
        · exact Or.inr ⟨by omega, h2⟩
        · exact Or.inl ⟨by omega, h2, h3⟩
    · rename_i h
      rw [ih]
      constructor
      · rintro ⟨h1, h2⟩; exact ⟨by omega, h2⟩
      · rintro ⟨h1, h2, h3⟩
        have : s ≠ n := fun e => by subst e; exact h h3
        exact ⟨by omega, h2, h3⟩
theorem clr_done (ks : List Bool) {v : Nat} (hv : v < 18446744073709551616) : clrN ks v 64 = v &&& kndP ks := by
  refine Nat.eq_of_testBit_eq (fun s => ?_)
  have h1 := clr_bit ks hv s 64
  have h2 := knd_bit ks s ks.length
  rw [Nat.testBit_and]
  show _ = (v.testBit s && (kndN ks ks.length).testBit s)
  cases e : v.testBit s
  · cases e2 : (clrN ks v 64).testBit s
    · rfl
    · have := (h1.1 e2).1; rw [e] at this; cases this
  · have h64 := bit_64 hv e
    cases e2 : (kndN ks ks.length).testBit s
    · cases e3 : (clrN ks v 64).testBit s
      · rfl
      · have hk := (h1.1 e3).2 h64
        have := h2.2 ⟨(List.getElem?_eq_some_iff.1 hk).1, h64, hk⟩
        rw [e2] at this; cases this
    · rw [h1.2 ⟨e, fun _ => (h2.1 e2).2.2⟩]; rfl
set_option maxHeartbeats 8000000 in
theorem rmaps_any (w : World) (m : Md) (so : Option Addr) (sc : Nat) (go : Option Addr) (gc : Nat) (co : Option Addr) (cc : Nat) (ao : Option Addr) (ac : Nat) (fo : Option Addr) (fc : Nat) (h : ModR w m so sc go gc co cc ao ac fo fc) (f : Fn) (ko : Option Addr) (kc : Nat) (io : Option Addr) (ic : Nat) (mo : Option Addr) (mc : Nat) (hi : RowAt elIn w io f.is.length ic f.is) (hk : RowAt elB w ko f.ks.length kc f.ks) (hf : ∀ i ∈ f.is, oIn i) (oc : ∀ s ∈ m.ca, oCa s) (hn : m.ca.length ≤ 1000) (hl : f.is.length ≤ 200) (hkl : f.ks.length ≤ 1000000) :
    Calls Try.prog 24 #[agM m so sc go gc co cc ao ac fo fc, agF f ko kc io ic mo mc] w (MapTo w m f) := by
  obtain ⟨W2, hW2⟩ : ∃ W2, W2 = ((w.alloc (.cells #[.slice so m.sh.length sc, .slice go m.gl.length gc, .slice co m.co.length cc, .slice ao m.ca.length ac, .slice fo m.fn.length fc, .int .i64 m.main] 48)).alloc (.cells #[.int .i64 f.p, .int .i64 f.c, .int .i64 f.s, .int .i64 f.r, .slice ko f.ks.length kc, .slice io f.is.length ic, .slice mo f.ms.length mc] 52)) := ⟨_, rfl⟩
  have g0 : G w W2 := by rw [hW2]; exact (G.alloc _ _).more _
  have m0 : W2.cell? ⟨w.heap.size, 0, none⟩ = some (.slice so m.sh.length sc) := by rw [hW2]; simp [go_sem]
  have m1 : W2.cell? ⟨w.heap.size, 1, none⟩ = some (.slice go m.gl.length gc) := by rw [hW2]; simp [go_sem]
  have m2 : W2.cell? ⟨w.heap.size, 2, none⟩ = some (.slice co m.co.length cc) := by rw [hW2]; simp [go_sem]
  have m3 : W2.cell? ⟨w.heap.size, 3, none⟩ = some (.slice ao m.ca.length ac) := by rw [hW2]; simp [go_sem]
  have m4 : W2.cell? ⟨w.heap.size, 4, none⟩ = some (.slice fo m.fn.length fc) := by rw [hW2]; simp [go_sem]
  have m5 : W2.cell? ⟨w.heap.size, 5, none⟩ = some (.int .i64 m.main) := by rw [hW2]; simp [go_sem]
  have f0 : W2.cell? ⟨w.heap.size + 1, 0, none⟩ = some (.int .i64 f.p) := by rw [hW2]; simp [go_sem]
  have f1 : W2.cell? ⟨w.heap.size + 1, 1, none⟩ = some (.int .i64 f.c) := by rw [hW2]; simp [go_sem]
  have f2 : W2.cell? ⟨w.heap.size + 1, 2, none⟩ = some (.int .i64 f.s) := by rw [hW2]; simp [go_sem]
  have f3 : W2.cell? ⟨w.heap.size + 1, 3, none⟩ = some (.int .i64 f.r) := by rw [hW2]; simp [go_sem]
  have f4 : W2.cell? ⟨w.heap.size + 1, 4, none⟩ = some (.slice ko f.ks.length kc) := by rw [hW2]; simp [go_sem]
  have f5 : W2.cell? ⟨w.heap.size + 1, 5, none⟩ = some (.slice io f.is.length ic) := by rw [hW2]; simp [go_sem]
  have f6 : W2.cell? ⟨w.heap.size + 1, 6, none⟩ = some (.slice mo f.ms.length mc) := by rw [hW2]; simp [go_sem]
  obtain ⟨n, hN⟩ : ∃ n, n = f.is.length := ⟨_, rfl⟩
  have C1 := hide (rsets_any W2 m so sc go gc co cc ao ac fo fc (h.g g0) f ko kc io ic mo mc (hi.g okIn g0) hf oc hn hl)
  unfold agM agF at C1
  have BF : Hid (∀ x, G W2 x → x.cell? ⟨w.heap.size + 1, 0, none⟩ = some (.int .i64 f.p) ∧ x.cell? ⟨w.heap.size + 1, 1, none⟩ = some (.int .i64 f.c) ∧ x.cell? ⟨w.heap.size + 1, 2, none⟩ = some (.int .i64 f.s) ∧ x.cell? ⟨w.heap.size + 1, 3, none⟩ = some (.int .i64 f.r) ∧ x.cell? ⟨w.heap.size + 1, 4, none⟩ = some (.slice ko f.ks.length kc) ∧ x.cell? ⟨w.heap.size + 1, 5, none⟩ = some (.slice io n ic) ∧ x.cell? ⟨w.heap.size + 1, 6, none⟩ = some (.slice mo f.ms.length mc)) := hide fun x g => by rw [hN]; exact ⟨g.cell f0, g.cell f1, g.cell f2, g.cell f3, g.cell f4, g.cell f5, g.cell f6⟩
  have KG : Hid (∀ s x, s < f.ks.length → G W2 x → ∃ (pb po : Nat) (a : Bool), ko = some ⟨pb, po, none⟩ ∧ x.cell? ⟨pb, po + s, none⟩ = some (.bool a) ∧ f.ks[s]? = some a) := hide fun s x hs g => by
    obtain ⟨pb, po, a, cs, e, ha, ecs, hcs⟩ := row_get hk hs
    have ecs : cs = [.bool a] := ecs
    subst ecs
    refine ⟨pb, po, a, e, ?_, ha⟩
    have := hcs x (g0.trans g) 0 _ rfl
    simpa [elB] using this
  have BT : Hid (∀ (x : World) (s : Int), oI s → Calls Try.prog 39 #[.int .i64 s] x fun e w' => e = .returned (.int .u64 (bitP s : Int)) ∧ w' = x) := hide fun x s o => rbit_any x s o
  have TOP : Hid (∀ st b wr, UAt wr b n (fun k => st k &&& kndP f.ks) → W2.heap.size ≤ b → G W2 wr → LeastD m f st → MapTo w m f (.returned (.slice (some ⟨b, 0, none⟩) n n)) wr) := hide fun st b wr U hb g hL => by
    rw [hN] at U ⊢
    exact ⟨st, b, rfl, U, Nat.le_trans g0.size hb, g0.trans g, hL⟩
  have hnb : Hid (n ≤ 200) := hide (by omega)
  have hN2 : Hid (n = f.is.length) := hide hN
  unfold agM agF
  unfold SetTo at C1
  rw [← hN] at C1 f5 hW2 ⊢
  clear h hi hf oc hn hl g0 hk hN
  replace hW2 := hide hW2
  replace hkl := hide hkl
  go_enter Try.func24, Try.ntmps24
  go_upto_region 1 with fail
  rw [← unhide hW2]
  clear hW2
  go_wp2_with fail
  refine (unhide C1).mono ?_
  rintro e y1 ⟨st, b, rfl, hU, hb, gy1, hL⟩
  have SB : Hid (∀ k, k < n → st k < 18446744073709551616) := hide fun k hk => hL.bd k (by have := unhide hN2; omega)
  have ST : Hid (UAt y1 b n (fun k => if k < 0 then st k &&& kndP f.ks else st k) ∧ G W2 y1) := hide ⟨hU.eq (fun k _ => by simp), gy1⟩
  have FI : Hid (∀ wr, UAt wr b n (fun k => if k < n then st k &&& kndP f.ks else st k) → G W2 wr → MapTo w m f (.returned (.slice (some ⟨b, 0, none⟩) n n)) wr) := hide fun wr U g => unhide TOP st b wr (U.eq (fun k hk => by simp [hk])) hb g hL
  have hb2 := hide hb
  clear C1 hU hb gy1 hL TOP m0 m1 m2 m3 m4 m5 f0 f1 f2 f3 f4 f5 f6 hN2
  go_wp2_with fail
  go_loopw [6, 7] (fun i _ wr => ∃ pc : Nat, pc ≤ n ∧ i = .int .i64 pc ∧ Hid (UAt wr b n (fun k => if k < pc then st k &&& kndP f.ks else st k) ∧ G W2 wr)) (fun i _ _ => n - (intOf i).toNat)
  case atStart => exact ⟨0, Nat.zero_le _, rfl, ST⟩
  case round =>
    obtain ⟨pc, hpc, rfl, HP⟩ := hrel
    clear ST
    by_cases hpc2 : pc < n
    · have hpi : (pc : Int) < (n : Int) := by omega
      have hpw : wrap64 ((pc : Int) + 1) = (pc : Int) + 1 := by have := unhide hnb; unfold wrap64; omega
      obtain ⟨sp, hsp⟩ : ∃ sp, sp = (fun k => if k < pc then st k &&& kndP f.ks else st k) := ⟨_, rfl⟩
      have S0 : Hid (UAt wr b n (upd sp pc (clrN f.ks (st pc) 0)) ∧ G W2 wr) := hide ⟨by
        have := (unhide HP).1
        rw [← hsp] at this
        refine this.eq (fun k hk => ?_)
        by_cases e : k = pc
        · subst e; rw [upd_self, hsp]; simp [clrN]
        · rw [upd_ne _ _ e], (unhide HP).2⟩
      have UP : Hid (∀ wx, UAt wx b n (upd sp pc (clrN f.ks (st pc) 64)) → UAt wx b n (fun k => if k < pc + 1 then st k &&& kndP f.ks else st k)) := hide fun wx U => U.eq (fun k hk => by
        by_cases e : k = pc
        · subst e; rw [upd_self, clr_done _ (unhide SB k hk)]; simp
        · rw [upd_ne _ _ e, hsp]
          by_cases h1 : k < pc
          · simp [h1, show k < pc + 1 by omega]
          · simp [h1, show ¬ k < pc + 1 by omega])
      have VB : Hid (∀ s, clrN f.ks (st pc) s < 18446744073709551616) := hide fun s => clr_lt _ (unhide SB pc hpc2) s
      clear HP hsp SB
      go_wp2_with fail
      go_loopw [7] (fun i wx => ∃ s : Nat, s ≤ 64 ∧ i = .int .i64 s ∧ Hid (UAt wx b n (upd sp pc (clrN f.ks (st pc) s)) ∧ G W2 wx)) (fun i _ => 64 - (intOf i).toNat)
      case atStart => exact ⟨0, Nat.zero_le _, rfl, S0⟩
      case round =>
        clear S0
        obtain ⟨s, hs, rfl, HU⟩ := hrel
        obtain ⟨bf0, bf1, bf2, bf3, bf4, bf5, bf6⟩ := unhide BF wr (unhide HU).2
        by_cases hs64 : s < 64
        · have hsi : (s : Int) < 64 := by omega
          have hsw : wrap64 ((s : Int) + 1) = (s : Int) + 1 := by unfold wrap64; omega
          have hso : oI (s : Int) := by unfold oI; omega
          have hVb := unhide VB s
          obtain ⟨V, hV⟩ : ∃ V, V = clrN f.ks (st pc) s := ⟨_, rfl⟩
          rw [← hV] at hVb
          have hX1 : bits .andNot .u64 (V : Int) (bitP (s : Int) : Int) = ((anU V (bitP (s : Int)) : Nat) : Int) := u64_andNot_nat V _ hVb (bitP_lt _)
          obtain ⟨VN, hVN⟩ : ∃ VN, VN = anU V (bitP (s : Int)) := ⟨_, rfl⟩
          rw [← hVN] at hX1
          clear VB
          by_cases hsl : s < f.ks.length
          · obtain ⟨pb, po, a, rfl, ca, hka⟩ := unhide KG s wr hsl (unhide HU).2
            have hsl2 : (s : Int) < (f.ks.length : Int) := by omega
            cases a
            · have hcl : Hid (clrN f.ks (st pc) (s + 1) = anU V (bitP (s : Int))) := hide (by rw [clrN, if_neg (by rw [hka]; simp), ← hV])
              clear hka
              have CBt := hide (unhide BT wr.drew (s : Int) hso)
              have HG : Hid (UAt (wr.drew.setCell ⟨b, pc, none⟩ (.int .u64 (VN : Int))) b n (upd sp pc (clrN f.ks (st pc) (s + 1))) ∧ G W2 (wr.drew.setCell ⟨b, pc, none⟩ (.int .u64 (VN : Int)))) := hide (by
                have hz := (unhide HU).1.g (G.refl wr).drew
                refine ⟨?_, G.set ((unhide HU).2.drew) _ _ _ (unhide hb2)⟩
                have := hz.put pc VN hpc2
                refine this.eq (fun k hk => ?_)
                rw [hVN, ← unhide hcl]
                by_cases e : k = pc
                · subst e; rw [upd_self, upd_self]
                · rw [upd_ne _ _ e, upd_ne _ _ e, upd_ne _ _ e])
              obtain ⟨c0, c1⟩ := ((unhide HU).1.g (G.refl wr).drew).c pc hpc2
              rw [upd_self, ← hV] at c0
              clear HU hcl hV hVN hVb BT BF KG FI UP
              go_upto_region 9 with fail
              refine wp_region_noPanic ?_
              refine wp_region_held_drew (S := fun _ => True) (by kernel_rfl) trivial (fun _ => ?_)
              obtain ⟨y4, hy4⟩ : ∃ y, y = wr.drew := ⟨_, rfl⟩
              rw [← hy4] at c0 c1 CBt HG ⊢
              clear hy4
              refine wpAnyH_take (i := 0) (v := .slice (some ⟨b, 0, none⟩) n n) rfl (by kernel_rfl) (by kernel_rfl) (by kernel_rfl) (fun _ _ _ h => h) (Or.inl ⟨by rfl, fun w hSw => by go_simp⟩) trivial ?_
              try simp only [Act.put, List.getElem_toArray, List.getElem_cons_zero, List.setIfInBounds_toArray, List.set_cons_zero, List.set_cons_succ]
              refine wpAnyH_take (i := 1) (v := .int .i64 (pc : Int)) rfl (by kernel_rfl) (by kernel_rfl) (by kernel_rfl) (fun _ _ _ h => h) (Or.inl ⟨by rfl, fun w hSw => by go_simp⟩) trivial ?_
              try simp only [Act.put, List.getElem_toArray, List.getElem_cons_succ, List.getElem_cons_zero, List.setIfInBounds_toArray, List.set_cons_zero, List.set_cons_succ]
              refine wpAnyH_take (i := 2) (v := .slice (some ⟨b, 0, none⟩) n n) rfl (by kernel_rfl) (by kernel_rfl) (by kernel_rfl) (fun _ _ _ h => h) (Or.inl ⟨by rfl, fun w hSw => by go_simp⟩) trivial ?_
              try simp only [Act.put, List.getElem_toArray, List.getElem_cons_succ, List.getElem_cons_zero, List.setIfInBounds_toArray, List.set_cons_zero, List.set_cons_succ]
              refine wpAnyH_take (i := 3) (v := .int .i64 (pc : Int)) rfl (by kernel_rfl) (by kernel_rfl) (by kernel_rfl) (fun _ _ _ h => h) (Or.inl ⟨by rfl, fun w hSw => by go_simp⟩) trivial ?_
              try simp only [Act.put, List.getElem_toArray, List.getElem_cons_succ, List.getElem_cons_zero, List.setIfInBounds_toArray, List.set_cons_zero, List.set_cons_succ]
              refine wpAnyH_take (i := 4) (v := .pointer (some ⟨b, pc, none⟩)) rfl (by kernel_rfl) (by kernel_rfl) (by kernel_rfl) (fun _ _ _ h => h) (Or.inl ⟨by rfl, fun w hSw => by go_simp⟩) trivial ?_
              try simp only [Act.put, List.getElem_toArray, List.getElem_cons_succ, List.getElem_cons_zero, List.setIfInBounds_toArray, List.set_cons_zero, List.set_cons_succ]
              refine wpAnyH_take (i := 6) (v := .int .i64 (s : Int)) rfl (by kernel_rfl) (by kernel_rfl) (by kernel_rfl) (fun _ _ _ h => h) (Or.inl ⟨by rfl, fun w hSw => by go_simp⟩) trivial ?_
              try simp only [Act.put, List.getElem_toArray, List.getElem_cons_succ, List.getElem_cons_zero, List.setIfInBounds_toArray, List.set_cons_zero, List.set_cons_succ]
              refine wpAnyH_ready (rs := [5, 7]) (by kernel_rfl) (by simp) ?_
              refine AllReadyH.cons rfl (fun K hK => ?_) (AllReadyH.cons rfl (fun K hK => ?_) AllReadyH.nil)
              · go_simp
                refine hK.out _ _ trivial (fun _ => ?_)
                clear hK K
                try simp only [Act.put, List.getElem_toArray, List.getElem_cons_succ, List.getElem_cons_zero, List.setIfInBounds_toArray, List.set_cons_zero, List.set_cons_succ]
                refine wpAnyH_ready (rs := [7]) (by kernel_rfl) (by simp) ?_
                refine AllReadyH.cons rfl (fun K hK => ?_) AllReadyH.nil
                go_simp
                refine (unhide CBt).mono ?_
                rintro e y5 ⟨rfl, rfl⟩
                go_wp2_with fail
                refine hK.out _ _ trivial (fun _ => ?_)
                clear hK K
                try simp only [Act.put, List.getElem_toArray, List.getElem_cons_succ, List.getElem_cons_zero, List.setIfInBounds_toArray, List.set_cons_zero, List.set_cons_succ]
                refine wpAnyH_take (i := 8) (v := .int .u64 (VN : Int)) rfl (by kernel_rfl) (by kernel_rfl) (by kernel_rfl) (fun _ _ _ h => h) (Or.inl ⟨by rfl, fun w hSw => by go_simp⟩) trivial ?_
                try simp only [Act.put, List.getElem_toArray, List.getElem_cons_succ, List.getElem_cons_zero, List.setIfInBounds_toArray, List.set_cons_zero, List.set_cons_succ]
                refine wpAnyH_take (i := 9) (v := .pointer (some ⟨b, pc, none⟩)) rfl (by kernel_rfl) (by kernel_rfl) (by kernel_rfl) (fun _ _ _ h => h) (Or.inl ⟨by rfl, fun w hSw => by go_simp⟩) trivial ?_
                try simp only [Act.put, List.getElem_toArray, List.getElem_cons_succ, List.getElem_cons_zero, List.setIfInBounds_toArray, List.set_cons_zero, List.set_cons_succ]
                refine wpAnyH_ready (rs := [10]) (by kernel_rfl) (by simp) ?_
                refine AllReadyH.cons rfl (fun K hK => ?_) AllReadyH.nil
                go_simp
                refine hK.out _ _ trivial (fun _ => ?_)
                clear hK K
                try simp only [Act.put, List.getElem_toArray, List.getElem_cons_succ, List.getElem_cons_zero, List.setIfInBounds_toArray, List.set_cons_zero, List.set_cons_succ]
                refine wpAnyH_done (by kernel_rfl) (NoPanic.normal ?_) _
                go_wp2_with fail
                go_roundw
                case rel => exact ⟨s + 1, by omega, by go_num, HG⟩
                case measure => first | exact dec_ltW 64 s hs64 | (rw [hsw]; exact dec_ltW 64 s hs64)
              · go_simp
                refine (unhide CBt).mono ?_
                rintro e y5 ⟨rfl, rfl⟩
                go_wp2_with fail
                refine hK.out _ _ trivial (fun _ => ?_)
                clear hK K
                try simp only [Act.put, List.getElem_toArray, List.getElem_cons_succ, List.getElem_cons_zero, List.setIfInBounds_toArray, List.set_cons_zero, List.set_cons_succ]
                refine wpAnyH_ready (rs := [5]) (by kernel_rfl) (by simp) ?_
                refine AllReadyH.cons rfl (fun K hK => ?_) AllReadyH.nil
                go_simp
                refine hK.out _ _ trivial (fun _ => ?_)
                clear hK K
                try simp only [Act.put, List.getElem_toArray, List.getElem_cons_succ, List.getElem_cons_zero, List.setIfInBounds_toArray, List.set_cons_zero, List.set_cons_succ]
                refine wpAnyH_take (i := 8) (v := .int .u64 (VN : Int)) rfl (by kernel_rfl) (by kernel_rfl) (by kernel_rfl) (fun _ _ _ h => h) (Or.inl ⟨by rfl, fun w hSw => by go_simp⟩) trivial ?_
                try simp only [Act.put, List.getElem_toArray, List.getElem_cons_succ, List.getElem_cons_zero, List.setIfInBounds_toArray, List.set_cons_zero, List.set_cons_succ]
                refine wpAnyH_take (i := 9) (v := .pointer (some ⟨b, pc, none⟩)) rfl (by kernel_rfl) (by kernel_rfl) (by kernel_rfl) (fun _ _ _ h => h) (Or.inl ⟨by rfl, fun w hSw => by go_simp⟩) trivial ?_
                try simp only [Act.put, List.getElem_toArray, List.getElem_cons_succ, List.getElem_cons_zero, List.setIfInBounds_toArray, List.set_cons_zero, List.set_cons_succ]
                refine wpAnyH_ready (rs := [10]) (by kernel_rfl) (by simp) ?_
                refine AllReadyH.cons rfl (fun K hK => ?_) AllReadyH.nil
                go_simp
                refine hK.out _ _ trivial (fun _ => ?_)
                clear hK K
                try simp only [Act.put, List.getElem_toArray, List.getElem_cons_succ, List.getElem_cons_zero, List.setIfInBounds_toArray, List.set_cons_zero, List.set_cons_succ]
                refine wpAnyH_done (by kernel_rfl) (NoPanic.normal ?_) _
                go_wp2_with fail
                go_roundw
                case rel => exact ⟨s + 1, by omega, by go_num, HG⟩
                case measure => first | exact dec_ltW 64 s hs64 | (rw [hsw]; exact dec_ltW 64 s hs64)
            · have HG : Hid (UAt wr b n (upd sp pc (clrN f.ks (st pc) (s + 1))) ∧ G W2 wr) := hide ⟨by rw [clrN, if_pos hka]; exact (unhide HU).1, (unhide HU).2⟩
              clear HU hV hVN hVb hX1 BT BF KG FI UP hka
              go_wp2_with fail
              go_roundw
              case rel => exact ⟨s + 1, by omega, by go_num, HG⟩
              case measure => first | exact dec_ltW 64 s hs64 | (rw [hsw]; exact dec_ltW 64 s hs64)
          · have hsl2 : (f.ks.length : Int) ≤ (s : Int) := by omega
            by_cases hdum : True
            · have hcl : Hid (clrN f.ks (st pc) (s + 1) = anU V (bitP (s : Int))) := hide (by rw [clrN, if_neg (by rw [List.getElem?_eq_none (by omega)]; simp), ← hV])
              clear hdum
              have CBt := hide (unhide BT wr.drew (s : Int) hso)
              have HG : Hid (UAt (wr.drew.setCell ⟨b, pc, none⟩ (.int .u64 (VN : Int))) b n (upd sp pc (clrN f.ks (st pc) (s + 1))) ∧ G W2 (wr.drew.setCell ⟨b, pc, none⟩ (.int .u64 (VN : Int)))) := hide (by
                have hz := (unhide HU).1.g (G.refl wr).drew
                refine ⟨?_, G.set ((unhide HU).2.drew) _ _ _ (unhide hb2)⟩
                have := hz.put pc VN hpc2
                refine this.eq (fun k hk => ?_)
                rw [hVN, ← unhide hcl]
                by_cases e : k = pc
                · subst e; rw [upd_self, upd_self]
                · rw [upd_ne _ _ e, upd_ne _ _ e, upd_ne _ _ e])
              obtain ⟨c0, c1⟩ := ((unhide HU).1.g (G.refl wr).drew).c pc hpc2
              rw [upd_self, ← hV] at c0
              clear HU hcl hV hVN hVb BT BF KG FI UP
              go_upto_region 9 with fail
              refine wp_region_noPanic ?_
              refine wp_region_held_drew (S := fun _ => True) (by kernel_rfl) trivial (fun _ => ?_)
              obtain ⟨y4, hy4⟩ : ∃ y, y = wr.drew := ⟨_, rfl⟩
              rw [← hy4] at c0 c1 CBt HG ⊢
              clear hy4
              refine wpAnyH_take (i := 0) (v := .slice (some ⟨b, 0, none⟩) n n) rfl (by kernel_rfl) (by kernel_rfl) (by kernel_rfl) (fun _ _ _ h => h) (Or.inl ⟨by rfl, fun w hSw => by go_simp⟩) trivial ?_
              try simp only [Act.put, List.getElem_toArray, List.getElem_cons_zero, List.setIfInBounds_toArray, List.set_cons_zero, List.set_cons_succ]
              refine wpAnyH_take (i := 1) (v := .int .i64 (pc : Int)) rfl (by kernel_rfl) (by kernel_rfl) (by kernel_rfl) (fun _ _ _ h => h) (Or.inl ⟨by rfl, fun w hSw => by go_simp⟩) trivial ?_
              try simp only [Act.put, List.getElem_toArray, List.getElem_cons_succ, List.getElem_cons_zero, List.setIfInBounds_toArray, List.set_cons_zero, List.set_cons_succ]
              refine wpAnyH_take (i := 2) (v := .slice (some ⟨b, 0, none⟩) n n) rfl (by kernel_rfl) (by kernel_rfl) (by kernel_rfl) (fun _ _ _ h => h) (Or.inl ⟨by rfl, fun w hSw => by go_simp⟩) trivial ?_
              try simp only [Act.put, List.getElem_toArray, List.getElem_cons_succ, List.getElem_cons_zero, List.setIfInBounds_toArray, List.set_cons_zero, List.set_cons_succ]
              refine wpAnyH_take (i := 3) (v := .int .i64 (pc : Int)) rfl (by kernel_rfl) (by kernel_rfl) (by kernel_rfl) (fun _ _ _ h => h) (Or.inl ⟨by rfl, fun w hSw => by go_simp⟩) trivial ?_
              try simp only [Act.put, List.getElem_toArray, List.getElem_cons_succ, List.getElem_cons_zero, List.setIfInBounds_toArray, List.set_cons_zero, List.set_cons_succ]
              refine wpAnyH_take (i := 4) (v := .pointer (some ⟨b, pc, none⟩)) rfl (by kernel_rfl) (by kernel_rfl) (by kernel_rfl) (fun _ _ _ h => h) (Or.inl ⟨by rfl, fun w hSw => by go_simp⟩) trivial ?_
              try simp only [Act.put, List.getElem_toArray, List.getElem_cons_succ, List.getElem_cons_zero, List.setIfInBounds_toArray, List.set_cons_zero, List.set_cons_succ]
              refine wpAnyH_take (i := 6) (v := .int .i64 (s : Int)) rfl (by kernel_rfl) (by kernel_rfl) (by kernel_rfl) (fun _ _ _ h => h) (Or.inl ⟨by rfl, fun w hSw => by go_simp⟩) trivial ?_
              try simp only [Act.put, List.getElem_toArray, List.getElem_cons_succ, List.getElem_cons_zero, List.setIfInBounds_toArray, List.set_cons_zero, List.set_cons_succ]
              refine wpAnyH_ready (rs := [5, 7]) (by kernel_rfl) (by simp) ?_
              refine AllReadyH.cons rfl (fun K hK => ?_) (AllReadyH.cons rfl (fun K hK => ?_) AllReadyH.nil)
              · go_simp
                refine hK.out _ _ trivial (fun _ => ?_)
                clear hK K
                try simp only [Act.put, List.getElem_toArray, List.getElem_cons_succ, List.getElem_cons_zero, List.setIfInBounds_toArray, List.set_cons_zero, List.set_cons_succ]
                refine wpAnyH_ready (rs := [7]) (by kernel_rfl) (by simp) ?_
                refine AllReadyH.cons rfl (fun K hK => ?_) AllReadyH.nil
                go_simp
                refine (unhide CBt).mono ?_
                rintro e y5 ⟨rfl, rfl⟩
                go_wp2_with fail
                refine hK.out _ _ trivial (fun _ => ?_)
                clear hK K
                try simp only [Act.put, List.getElem_toArray, List.getElem_cons_succ, List.getElem_cons_zero, List.setIfInBounds_toArray, List.set_cons_zero, List.set_cons_succ]
                refine wpAnyH_take (i := 8) (v := .int .u64 (VN : Int)) rfl (by kernel_rfl) (by kernel_rfl) (by kernel_rfl) (fun _ _ _ h => h) (Or.inl ⟨by rfl, fun w hSw => by go_simp⟩) trivial ?_
                try simp only [Act.put, List.getElem_toArray, List.getElem_cons_succ, List.getElem_cons_zero, List.setIfInBounds_toArray, List.set_cons_zero, List.set_cons_succ]
                refine wpAnyH_take (i := 9) (v := .pointer (some ⟨b, pc, none⟩)) rfl (by kernel_rfl) (by kernel_rfl) (by kernel_rfl) (fun _ _ _ h => h) (Or.inl ⟨by rfl, fun w hSw => by go_simp⟩) trivial ?_
                try simp only [Act.put, List.getElem_toArray, List.getElem_cons_succ, List.getElem_cons_zero, List.setIfInBounds_toArray, List.set_cons_zero, List.set_cons_succ]
                refine wpAnyH_ready (rs := [10]) (by kernel_rfl) (by simp) ?_
                refine AllReadyH.cons rfl (fun K hK => ?_) AllReadyH.nil
                go_simp
                refine hK.out _ _ trivial (fun _ => ?_)
                clear hK K
                try simp only [Act.put, List.getElem_toArray, List.getElem_cons_succ, List.getElem_cons_zero, List.setIfInBounds_toArray, List.set_cons_zero, List.set_cons_succ]
                refine wpAnyH_done (by kernel_rfl) (NoPanic.normal ?_) _
                go_wp2_with fail
                go_roundw
                case rel => exact ⟨s + 1, by omega, by go_num, HG⟩
                case measure => first | exact dec_ltW 64 s hs64 | (rw [hsw]; exact dec_ltW 64 s hs64)
              · go_simp
                refine (unhide CBt).mono ?_
                rintro e y5 ⟨rfl, rfl⟩
                go_wp2_with fail
                refine hK.out _ _ trivial (fun _ => ?_)
                clear hK K
                try simp only [Act.put, List.getElem_toArray, List.getElem_cons_succ, List.getElem_cons_zero, List.setIfInBounds_toArray, List.set_cons_zero, List.set_cons_succ]
                refine wpAnyH_ready (rs := [5]) (by kernel_rfl) (by simp) ?_
                refine AllReadyH.cons rfl (fun K hK => ?_) AllReadyH.nil
                go_simp
                refine hK.out _ _ trivial (fun _ => ?_)
                clear hK K
                try simp only [Act.put, List.getElem_toArray, List.getElem_cons_succ, List.getElem_cons_zero, List.setIfInBounds_toArray, List.set_cons_zero, List.set_cons_succ]
                refine wpAnyH_take (i := 8) (v := .int .u64 (VN : Int)) rfl (by kernel_rfl) (by kernel_rfl) (by kernel_rfl) (fun _ _ _ h => h) (Or.inl ⟨by rfl, fun w hSw => by go_simp⟩) trivial ?_
                try simp only [Act.put, List.getElem_toArray, List.getElem_cons_succ, List.getElem_cons_zero, List.setIfInBounds_toArray, List.set_cons_zero, List.set_cons_succ]
                refine wpAnyH_take (i := 9) (v := .pointer (some ⟨b, pc, none⟩)) rfl (by kernel_rfl) (by kernel_rfl) (by kernel_rfl) (fun _ _ _ h => h) (Or.inl ⟨by rfl, fun w hSw => by go_simp⟩) trivial ?_
                try simp only [Act.put, List.getElem_toArray, List.getElem_cons_succ, List.getElem_cons_zero, List.setIfInBounds_toArray, List.set_cons_zero, List.set_cons_succ]
                refine wpAnyH_ready (rs := [10]) (by kernel_rfl) (by simp) ?_
                refine AllReadyH.cons rfl (fun K hK => ?_) AllReadyH.nil
                go_simp
                refine hK.out _ _ trivial (fun _ => ?_)
                clear hK K
                try simp only [Act.put, List.getElem_toArray, List.getElem_cons_succ, List.getElem_cons_zero, List.setIfInBounds_toArray, List.set_cons_zero, List.set_cons_succ]
                refine wpAnyH_done (by kernel_rfl) (NoPanic.normal ?_) _
                go_wp2_with fail
                go_roundw
                case rel => exact ⟨s + 1, by omega, by go_num, HG⟩
                case measure => first | exact dec_ltW 64 s hs64 | (rw [hsw]; exact dec_ltW 64 s hs64)
            · exact absurd trivial hdum
        · obtain rfl : s = 64 := by omega
          have HG : Hid (UAt wr b n (fun k => if k < pc + 1 then st k &&& kndP f.ks else st k) ∧ G W2 wr) := hide ⟨unhide UP wr (unhide HU).1, (unhide HU).2⟩
          clear HU BT BF KG FI UP VB
          go_wp2_with fail
          go_roundw
          case rel => exact ⟨pc + 1, hpc2, by go_num, HG⟩
          case measure => first | exact dec_ltW n pc hpc2 | (rw [hpw]; exact dec_ltW n pc hpc2)
    · obtain rfl : pc = n := by omega
      have K := hide (unhide FI wr (unhide HP).1 (unhide HP).2)
      clear HP FI BF KG BT SB
      go_wp2_with fail
      refine bodyPost_ret (by simp [results, Try.results24, go_sem]; try rfl) rfl ?_
      exact unhide K
end Go.Proofs.Ytpbeafgfhnlmbaa
