/- Modules as bytes, plain: what each part is in bytes, how it is read, that the one undoes the other. -/
import Derived.Test.YtdekhnfncecacaaDoorBytesPlain
import Derived.Test.YtdekhnfncecacaaDoorCodeT
namespace Go.Proofs.YtdekhnfncecacaaDoor
set_option maxRecDepth 100000
open Go.RowKit

/-- All are bytes. -/
def Byt (zs : List Int) : Prop := ∀ z ∈ zs, 0 ≤ z ∧ z ≤ 255
theorem Byt.drop {zs : List Int} (h : Byt zs) (n : Nat) : Byt (zs.drop n) := fun z hz => h z (List.mem_of_mem_drop hz)
theorem Byt.take {zs : List Int} (h : Byt zs) (n : Nat) : Byt (zs.take n) := fun z hz => h z (List.mem_of_mem_take hz)
theorem Byt.app {a b : List Int} (h : Byt a) (g : Byt b) : Byt (a ++ b) := fun z hz => by
  rcases List.mem_append.1 hz with h1 | h1
  · exact h z h1
  · exact g z h1
theorem Byt.left {a b : List Int} (h : Byt (a ++ b)) : Byt a := fun z hz => h z (List.mem_append.2 (Or.inl hz))
theorem Byt.right {a b : List Int} (h : Byt (a ++ b)) : Byt b := fun z hz => h z (List.mem_append.2 (Or.inr hz))
theorem byt_nil : Byt [] := fun z hz => by cases hz

/-- A reader: what it reads, and what is left; none: it is not there. -/
abbrev Prs (α : Type) := List Int → Option (α × List Int)

/-- What 'e' writes, 'p' reads; what 'p' reads is what 'e' writes. -/
structure Cod {α : Type} (ok : α → Prop) (e : α → List Int) (p : Prs α) (least : Nat) : Prop where
  byt : ∀ a, ok a → Byt (e a)
  fwd : ∀ a r, ok a → p (e a ++ r) = some (a, r)
  bwd : ∀ zs a r, Byt zs → p zs = some (a, r) → ok a ∧ zs = e a ++ r
  len : ∀ a, ok a → least ≤ (e a).length

theorem encF_byt : ∀ f u, u < 2 * 128 ^ f → Byt (encF f u)
  | 0, u, h, x, hx => by simp [encF] at hx; simp at h; omega
  | f + 1, u, h, x, hx => by
    by_cases hu : u < 128
    · rw [encF_stop _ u hu] at hx; simp at hx; omega
    · rw [encF_more f u hu] at hx
      rcases List.mem_cons.1 hx with e | hx
      · omega
      · exact encF_byt f (u / 128) (by rw [Nat.pow_succ] at h; omega) x hx

theorem take_bwd : ∀ (zs : List Int) (k a u n : Nat), Byt zs → k ≤ 9 → a < 2 ^ (k * 7) → takeF zs k a = (u, n) → n ≠ 0 →
    ∃ uu, uu < 2 * 128 ^ (9 - k) ∧ (0 < k → 0 < uu) ∧ n = k + (encF (9 - k) uu).length ∧ u = a + uu * 2 ^ (k * 7) ∧ zs = encF (9 - k) uu ++ zs.drop (n - k)
  | [], k, a, u, n, _, _, _, h, hn => by simp [takeF] at h; omega
  | c :: r, k, a, u, n, hb, hk, ha, h, hn => by
    have hc := hb c (by simp)
    have hbr : Byt r := fun z hz => hb z (by simp [hz])
    obtain ⟨s1, s2, s3, s4⟩ := take_step c r k a u n h
    have h9 : ¬ (k = 9 ∧ 1 < c) := fun hh => hn (s1 hh).2
    have hpw : 2 ^ (k * 7) ≤ 2 ^ 63 := Nat.pow_le_pow_right (by decide) (by omega)
    have hor : orAt a k c = a + c.toNat % 128 * 2 ^ (k * 7) := by
      unfold orAt
      have hm : c.toNat % 128 < 128 := Nat.mod_lt _ (by decide)
      have hx : c.toNat % 128 * 2 ^ (k * 7) < 18446744073709551616 := by
        by_cases h8 : k ≤ 8
        · have hpw2 : 2 ^ (k * 7) ≤ 2 ^ 56 := Nat.pow_le_pow_right (by decide) (by omega)
          have : c.toNat % 128 * 2 ^ (k * 7) ≤ 127 * 2 ^ (k * 7) := Nat.mul_le_mul_right _ (by omega)
          generalize c.toNat % 128 * 2 ^ (k * 7) = q at *
          omega
        · have : c.toNat % 128 ≤ 1 := by omega
          have : c.toNat % 128 * 2 ^ (k * 7) ≤ 1 * 2 ^ (k * 7) := Nat.mul_le_mul_right _ (by omega)
          generalize c.toNat % 128 * 2 ^ (k * 7) = q at *
          omega
      rw [Nat.mod_eq_of_lt hx, or_add a _ (k * 7) ha]
    by_cases h128 : 128 ≤ c
    · have hk8 : k ≤ 8 := by omega
      have hm : c.toNat % 128 < 128 := Nat.mod_lt _ (by decide)
      have e7 : 2 ^ ((k + 1) * 7) = 2 ^ (k * 7) * 128 := by rw [Nat.add_mul, Nat.pow_add]
      have hlt : orAt a k c < 2 ^ ((k + 1) * 7) := by
        rw [hor, e7]
        have : c.toNat % 128 * 2 ^ (k * 7) ≤ 127 * 2 ^ (k * 7) := Nat.mul_le_mul_right _ (by omega)
        generalize c.toNat % 128 * 2 ^ (k * 7) = q at *
        omega
      obtain ⟨uu, g1, g2, g3, g4, g5⟩ := take_bwd r (k + 1) (orAt a k c) u n hbr (by omega) hlt (s2 h9 h128) hn
      have h9k : 9 - k = (9 - (k + 1)) + 1 := by omega
      have hup := g2 (by omega)
      have ebig : ¬ (uu * 128 + c.toNat % 128) < 128 := by omega
      have eenc : encF (9 - k) (uu * 128 + c.toNat % 128) = c :: encF (9 - (k + 1)) uu := by
        rw [h9k, encF_more _ _ ebig]
        have e1 : (uu * 128 + c.toNat % 128) % 128 = c.toNat % 128 := by omega
        have e2 : (uu * 128 + c.toNat % 128) / 128 = uu := by omega
        rw [e1, e2]
        congr 1
        omega
      refine ⟨uu * 128 + c.toNat % 128, ?_, fun _ => by omega, ?_, ?_, ?_⟩
      · rw [h9k, Nat.pow_succ]; omega
      · rw [eenc, g3]; simp; omega
      · rw [g4, hor, e7, Nat.add_mul]
        have : uu * (2 ^ (k * 7) * 128) = uu * 128 * 2 ^ (k * 7) := by rw [Nat.mul_comm (2 ^ (k * 7)), ← Nat.mul_assoc]
        omega
      · rw [eenc]
        have e3 : n - k = (n - (k + 1)) + 1 := by omega
        rw [e3, List.drop_succ_cons, List.cons_append, ← g5]
    · by_cases h0 : c = 0 ∧ 0 < k
      · exact absurd (s3 h9 h128 h0).2 hn
      · obtain ⟨r1, r2⟩ := s4 h9 h128 h0
        have e1 : c.toNat % 128 = c.toNat := by omega
        rw [e1] at hor
        have eenc : encF (9 - k) c.toNat = [c] := by rw [encF_stop _ _ (by omega)]; congr 1; omega
        refine ⟨c.toNat, ?_, fun hk0 => by omega, ?_, ?_, ?_⟩
        · by_cases h8 : k = 9
          · subst h8; simp; omega
          · have : 128 ^ 1 ≤ 128 ^ (9 - k) := Nat.pow_le_pow_right (by decide) (by omega)
            omega
        · rw [eenc, r2]; rfl
        · rw [r1, hor]
        · rw [eenc, r2]
          have : k + 1 - k = 1 := by omega
          rw [this]; rfl

def eU (u : Nat) : List Int := encF 9 u
def pU : Prs Nat := fun zs => if (takeF zs 0 0).2 = 0 then none else some ((takeF zs 0 0).1, zs.drop (takeF zs 0 0).2)
theorem cU : Cod oU eU pU 1 where
  byt u h := encF_byt 9 u (by simpa [oU] using h)
  fwd u r h := by
    unfold pU eU
    rw [take_put u h r]
    have h1 := (encF_len 9 u).1
    have h2 : ¬ (encF 9 u).length = 0 := by omega
    simp only [if_neg h2, List.drop_left]
  bwd zs u r hb h := by
    unfold pU at h
    split at h
    · simp at h
    · rename_i hn
      simp at h
      obtain ⟨uu, g1, _, g3, g4, g5⟩ := take_bwd zs 0 0 _ _ hb (by omega) (by decide) (Prod.ext rfl rfl) hn
      simp at g1 g3 g4 g5
      rw [← h.1, ← h.2, g4]
      refine ⟨g1, ?_⟩
      rw [← g4] at g5
      unfold eU
      rw [← g4]
      exact g5
  len u _ := (encF_len 9 u).1

/-- One behind the other. -/
def pSeq {α β : Type} (p : Prs α) (q : Prs β) : Prs (α × β) := fun zs => match p zs with
  | none => none
  | some (a, r) => match q r with
    | none => none
    | some (b, s) => some ((a, b), s)
theorem Cod.seq {α β : Type} {o1 : α → Prop} {o2 : β → Prop} {e1 : α → List Int} {e2 : β → List Int} {p1 : Prs α} {p2 : Prs β} {m n : Nat} (c1 : Cod o1 e1 p1 m) (c2 : Cod o2 e2 p2 n) :
    Cod (fun x : α × β => o1 x.1 ∧ o2 x.2) (fun x => e1 x.1 ++ e2 x.2) (pSeq p1 p2) (m + n) where
  byt x h := (c1.byt _ h.1).app (c2.byt _ h.2)
  fwd x r h := by
    unfold pSeq
    rw [List.append_assoc, c1.fwd x.1 _ h.1]
    simp only
    rw [c2.fwd x.2 _ h.2]
  bwd zs x r hb h := by
    unfold pSeq at h
    split at h
    · cases h
    · rename_i a s h1
      split at h
      · cases h
      · rename_i b t h2
        simp at h
        obtain ⟨k1, k2⟩ := c1.bwd zs a s hb h1
        rw [k2] at hb
        obtain ⟨k3, k4⟩ := c2.bwd s b t hb.right h2
        rw [← h.1, ← h.2]
        refine ⟨⟨k1, k3⟩, ?_⟩
        rw [k2, k4]; simp
  len x h := by
    have := c1.len _ h.1
    have := c2.len _ h.2
    simp; omega

/-- The same, spelt otherwise. -/
def pMap {α β : Type} (f : α → β) (p : Prs α) : Prs β := fun zs => match p zs with
  | none => none
  | some (a, r) => some (f a, r)
theorem Cod.map {α β : Type} {o : α → Prop} {e : α → List Int} {p : Prs α} {m : Nat} (c : Cod o e p m) (f : α → β) (g : β → α) (hfg : ∀ b, f (g b) = b) (hgf : ∀ a, o a → g (f a) = a) :
    Cod (fun b => o (g b)) (fun b => e (g b)) (pMap f p) m where
  byt b h := c.byt _ h
  fwd b r h := by unfold pMap; rw [c.fwd _ _ h]; simp only; rw [hfg]
  bwd zs b r hb h := by
    unfold pMap at h
    split at h
    · cases h
    · rename_i a s h1
      simp at h
      obtain ⟨k1, k2⟩ := c.bwd zs a s hb h1
      rw [← h.1, ← h.2]
      simp only [hgf a k1]
      exact ⟨k1, k2⟩
  len b h := c.len _ h

/-- Some are refused. -/
def pIf {α : Type} (q : α → Bool) (p : Prs α) : Prs α := fun zs => match p zs with
  | none => none
  | some (a, r) => if q a then some (a, r) else none
theorem Cod.cut {α : Type} {o : α → Prop} {e : α → List Int} {p : Prs α} {m : Nat} (c : Cod o e p m) (q : α → Bool) : Cod (fun a => o a ∧ q a = true) e (pIf q p) m where
  byt a h := c.byt _ h.1
  fwd a r h := by unfold pIf; rw [c.fwd _ _ h.1]; simp only; rw [if_pos h.2]
  bwd zs a r hb h := by
    unfold pIf at h
    split at h
    · cases h
    · rename_i b s h1
      by_cases hq : q b = true
      · rw [if_pos hq] at h
        simp at h
        rw [← h.1, ← h.2]
        exact ⟨⟨(c.bwd _ _ _ hb h1).1, hq⟩, (c.bwd _ _ _ hb h1).2⟩
      · rw [if_neg hq] at h; cases h
  len a h := c.len _ h.1

/-- So many. -/
def pN {α : Type} (p : Prs α) : Nat → Prs (List α)
  | 0, zs => some ([], zs)
  | n + 1, zs => match p zs with
    | none => none
    | some (a, r) => match pN p n r with
      | none => none
      | some (l, s) => some (a :: l, s)
theorem pN_fwd {α : Type} {o : α → Prop} {e : α → List Int} {p : Prs α} {m : Nat} (c : Cod o e p m) : ∀ (l : List α) (r : List Int), (∀ a ∈ l, o a) → pN p l.length (l.flatMap e ++ r) = some (l, r)
  | [], r, _ => rfl
  | a :: l, r, h => by
    simp only [List.length_cons, List.flatMap_cons, List.append_assoc, pN]
    rw [c.fwd a _ (h a (by simp))]
    simp only
    rw [pN_fwd c l r (fun b hb => h b (by simp [hb]))]
theorem pN_bwd {α : Type} {o : α → Prop} {e : α → List Int} {p : Prs α} {m : Nat} (c : Cod o e p m) : ∀ (n : Nat) (zs : List Int) (l : List α) (r : List Int), Byt zs → pN p n zs = some (l, r) → l.length = n ∧ (∀ a ∈ l, o a) ∧ zs = l.flatMap e ++ r
  | 0, zs, l, r, _, h => by
    simp [pN] at h
    obtain ⟨rfl, rfl⟩ := h
    exact ⟨rfl, ⟨fun a (ha : a ∈ []) => absurd ha (by simp), rfl⟩⟩
  | n + 1, zs, l, r, hb, h => by
    rw [pN] at h
    split at h
    · cases h
    · rename_i a s h1
      split at h
      · cases h
      · rename_i l2 t h2
        simp at h
        obtain ⟨k1, k2⟩ := c.bwd zs a s hb h1
        rw [k2] at hb
        obtain ⟨k3, k4, k5⟩ := pN_bwd c n s l2 t hb.right h2
        rw [← h.1, ← h.2]
        refine ⟨by simp [k3], ?_, ?_⟩
        · intro b hb2
          rcases List.mem_cons.1 hb2 with e | hb2
          · rw [e]; exact k1
          · exact k4 b hb2
        · rw [k2, k5]; simp
theorem flat_len {α : Type} {o : α → Prop} {e : α → List Int} {p : Prs α} {m : Nat} (c : Cod o e p m) : ∀ (l : List α), (∀ a ∈ l, o a) → l.length * m ≤ (l.flatMap e).length
  | [], _ => by simp
  | a :: l, h => by
    have h1 := flat_len c l (fun b hb => h b (by simp [hb]))
    have h2 := c.len a (h a (by simp))
    simp only [List.length_cons, List.flatMap_cons, List.length_append, Nat.add_mul]
    omega
/-- More than there is room for are not there. -/
theorem pN_none {α : Type} {o : α → Prop} {e : α → List Int} {p : Prs α} {m : Nat} (c : Cod o e p m) (n : Nat) (zs : List Int) (hb : Byt zs) (h : zs.length < n * m) : pN p n zs = none := by
  cases hp : pN p n zs with
  | none => rfl
  | some x =>
    obtain ⟨k1, k2, k3⟩ := pN_bwd c n zs x.1 x.2 hb hp
    have := flat_len c x.1 k2
    rw [k1] at this
    rw [k3, List.length_append] at h
    omega

/-- A list: how many, and each. -/
def pL {α : Type} (p : Prs α) : Prs (List α) := fun zs => match pU zs with
  | none => none
  | some (n, r) => pN p n r
def eL {α : Type} (e : α → List Int) (l : List α) : List Int := eU l.length ++ l.flatMap e
theorem flat_byt {α : Type} {e : α → List Int} : ∀ (l : List α), (∀ a ∈ l, Byt (e a)) → Byt (l.flatMap e)
  | [], _ => byt_nil
  | a :: l, h => by
    rw [List.flatMap_cons]
    exact (h a (by simp)).app (flat_byt l (fun b hb => h b (by simp [hb])))
theorem Cod.list {α : Type} {o : α → Prop} {e : α → List Int} {p : Prs α} {m : Nat} (c : Cod o e p m) : Cod (oL o) (eL e) (pL p) 1 where
  byt l h := (cU.byt _ h.1).app (flat_byt l (fun a ha => c.byt a (h.2 a ha)))
  fwd l r h := by
    unfold pL eL
    rw [List.append_assoc, cU.fwd _ _ h.1]
    exact pN_fwd c l r h.2
  bwd zs l r hb h := by
    unfold pL at h
    split at h
    · cases h
    · rename_i n s h1
      obtain ⟨k1, k2⟩ := cU.bwd zs n s hb h1
      rw [k2] at hb
      obtain ⟨k3, k4, k5⟩ := pN_bwd c n s l r hb.right h
      unfold oL eL
      rw [k3]
      exact ⟨⟨k1, k4⟩, by rw [k2, k5]; simp⟩
  len l h := by
    have := cU.len _ h.1
    unfold eL
    simp only [List.length_append]
    omega

def zg (v : Int) : Nat := (zigI v).toNat
def eI (v : Int) : List Int := eU (zg v)
def pI : Prs Int := pMap zagI pU
theorem zg_zag (u : Nat) : zg (zagI u) = u := by unfold zg zagI zigI; split <;> split <;> omega
theorem zag_zg (v : Int) : zagI (zg v) = v := by unfold zg zagI zigI; split <;> split <;> omega
theorem oU_zg {v : Int} (h : oI v) : oU (zg v) := by
  obtain ⟨h0, h1⟩ := h
  unfold oU zg zigI
  split <;> omega
theorem oI_of {v : Int} (h : oU (zg v)) : oI v := by
  unfold oU zg zigI at h
  unfold oI
  split at h <;> omega
theorem cI : Cod oI eI pI 1 := by
  have c := cU.map zagI zg zag_zg (fun u _ => zg_zag u)
  exact ⟨fun a h => c.byt a (oU_zg h), fun a r h => c.fwd a r (oU_zg h), fun zs a r hb h => ⟨oI_of (c.bwd zs a r hb h).1, (c.bwd zs a r hb h).2⟩, fun a h => c.len a (oU_zg h)⟩

/-- A bool. -/
def nB (b : Bool) : Nat := if b then 1 else 0
def eB (b : Bool) : List Int := eU (nB b)
def pB : Prs Bool := pMap (fun u => u == 1) (pIf (fun u => decide (u ≤ 1)) pU)
theorem cB : Cod oB eB pB 1 := by
  have c := (cU.cut (fun u => decide (u ≤ 1))).map (fun u => u == 1) nB (by intro b; cases b <;> rfl) (by
    intro u h
    have : u ≤ 1 := by simpa using h.2
    have : u = 0 ∨ u = 1 := by omega
    rcases this with rfl | rfl <;> rfl)
  have ho : ∀ b, oU (nB b) ∧ decide (nB b ≤ 1) = true := fun b => by cases b <;> exact ⟨by unfold oU nB; decide, by decide⟩
  exact ⟨fun a _ => c.byt a (ho a), fun a r _ => c.fwd a r (ho a), fun zs a r hb h => ⟨trivial, (c.bwd zs a r hb h).2⟩, fun a _ => c.len a (ho a)⟩

def eSp (s : Sp) : List Int := eI s.k ++ (eI s.f ++ eU s.m)
def pSp : Prs Sp := pMap (fun x : Int × Int × Nat => (⟨x.1, x.2.1, x.2.2⟩ : Sp)) (pSeq pI (pSeq pI pU))
theorem cSp : Cod oSp eSp pSp 3 := (cI.seq (cI.seq cU)).map _ (fun s : Sp => (s.k, s.f, s.m)) (fun _ => rfl) (fun _ _ => rfl)

def eCa (s : Ca) : List Int := eI s.k ++ (eI s.c ++ (eI s.v ++ eI s.t))
def pCa : Prs Ca := pMap (fun x : Int × Int × Int × Int => (⟨x.1, x.2.1, x.2.2.1, x.2.2.2⟩ : Ca)) (pSeq pI (pSeq pI (pSeq pI pI)))
theorem cCa : Cod oCa eCa pCa 4 := (cI.seq (cI.seq (cI.seq cI))).map _ (fun s : Ca => (s.k, s.c, s.v, s.t)) (fun _ => rfl) (fun _ _ => rfl)

def eIn (s : In) : List Int := eI s.op ++ (eI s.a ++ (eI s.b ++ (eI s.c ++ eI s.d)))
def pIn : Prs In := pMap (fun x : Int × Int × Int × Int × Int => (⟨x.1, x.2.1, x.2.2.1, x.2.2.2.1, x.2.2.2.2⟩ : In)) (pSeq pI (pSeq pI (pSeq pI (pSeq pI pI))))
theorem cIn : Cod oIn eIn pIn 5 := (cI.seq (cI.seq (cI.seq (cI.seq cI)))).map _ (fun s : In => (s.op, s.a, s.b, s.c, s.d)) (fun _ => rfl) (fun _ _ => rfl)

def eFn (s : Fn) : List Int := eI s.p ++ (eI s.c ++ (eI s.s ++ (eI s.r ++ (eL eB s.ks ++ (eL eIn s.is ++ eL eU s.ms)))))
def pFn : Prs Fn := pMap (fun x : Int × Int × Int × Int × List Bool × List In × List Nat => (⟨x.1, x.2.1, x.2.2.1, x.2.2.2.1, x.2.2.2.2.1, x.2.2.2.2.2.1, x.2.2.2.2.2.2⟩ : Fn)) (pSeq pI (pSeq pI (pSeq pI (pSeq pI (pSeq (pL pB) (pSeq (pL pIn) (pL pU)))))))
theorem cFn : Cod oFn eFn pFn 7 := (cI.seq (cI.seq (cI.seq (cI.seq (cB.list.seq (cIn.list.seq cU.list)))))).map _ (fun s : Fn => (s.p, s.c, s.s, s.r, s.ks, s.is, s.ms)) (fun _ => rfl) (fun _ _ => rfl)

def eMd (s : Md) : List Int := eL eSp s.sh ++ (eL eB s.gl ++ (eL eI s.co ++ (eL eCa s.ca ++ (eL eFn s.fn ++ eI s.main))))
def pMd : Prs Md := pMap (fun x : List Sp × List Bool × List Int × List Ca × List Fn × Int => (⟨x.1, x.2.1, x.2.2.1, x.2.2.2.1, x.2.2.2.2.1, x.2.2.2.2.2⟩ : Md)) (pSeq (pL pSp) (pSeq (pL pB) (pSeq (pL pI) (pSeq (pL pCa) (pSeq (pL pFn) pI)))))
theorem cMd : Cod oMd eMd pMd 6 := (cSp.list.seq (cB.list.seq (cI.list.seq (cCa.list.seq (cFn.list.seq cI))))).map _ (fun s : Md => (s.sh, s.gl, s.co, s.ca, s.fn, s.main)) (fun _ => rfl) (fun _ _ => rfl)

/-- A module's bytes; bytes' module. -/
def fst4 : List Int := [71, 79, 76, 49]
def encM (m : Md) : List Int := fst4 ++ eMd m
def decM (zs : List Int) : Option Md := if zs.take 4 = fst4 then match pMd (zs.drop 4) with
  | some (m, []) => some m
  | _ => none
  else none

theorem dec_enc (m : Md) (h : oMd m) : decM (encM m) = some m := by
  have h1 : (encM m).take 4 = fst4 := rfl
  have h2 : (encM m).drop 4 = eMd m ++ [] := by simp [encM, fst4]
  unfold decM
  rw [if_pos h1, h2, cMd.fwd m [] h]
theorem dec_some {zs : List Int} {m : Md} (hb : Byt zs) (h : decM zs = some m) : oMd m ∧ zs = encM m := by
  unfold decM at h
  split at h
  · rename_i h4
    split at h
    · rename_i m2 h1
      simp at h
      subst h
      obtain ⟨k1, k2⟩ := cMd.bwd _ _ _ (hb.drop 4) h1
      refine ⟨k1, ?_⟩
      unfold encM
      rw [← h4]
      rw [List.append_nil] at k2
      rw [← k2, List.take_append_drop]
    · cases h
  · cases h
theorem enc_byt (m : Md) (h : oMd m) : Byt (encM m) := Byt.app (by intro z hz; simp [fst4] at hz; omega) (cMd.byt m h)
theorem enc_inj {a b : Md} (ha : oMd a) (hb : oMd b) (h : encM a = encM b) : a = b := by
  have h1 := dec_enc a ha
  rw [h, dec_enc b hb] at h1
  exact (Option.some.inj h1).symm
theorem dec_more (m : Md) (h : oMd m) (r : List Int) (hr : r ≠ []) : decM (encM m ++ r) = none := by
  have h1 : (encM m ++ r).take 4 = fst4 := rfl
  have h2 : (encM m ++ r).drop 4 = eMd m ++ r := by simp [encM, fst4]
  unfold decM
  rw [if_pos h1, h2, cMd.fwd m r h]
  cases r with
  | nil => exact absurd rfl hr
  | cons x y => rfl
theorem dec_cut (m : Md) (h : oMd m) (n : Nat) (hn : n < (encM m).length) : decM ((encM m).take n) = none := by
  cases hd : decM ((encM m).take n) with
  | none => rfl
  | some m2 =>
    obtain ⟨k1, k2⟩ := dec_some ((enc_byt m h).take n) hd
    have e : encM m = encM m2 ++ (encM m).drop n := by rw [← k2, List.take_append_drop]
    have hne : (encM m).drop n ≠ [] := by
      intro h0
      have := congrArg List.length h0
      simp at this
      omega
    have h3 := dec_more m2 k1 _ hne
    rw [← e, dec_enc m h] at h3
    cases h3
end Go.Proofs.YtdekhnfncecacaaDoor
