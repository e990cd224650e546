/- PLAIN ARITHMETIC: how many bits of a number are 1; the steps of math/bits.OnesCount64 reckon it. No Go in it. -/
import Derived.Test.YtgflkpccddfalaaGreatDoorGeomPlain
namespace Go.Proofs.YtgflkpccddfalaaGreatDoor
set_option maxRecDepth 100000

/-- How many of the lowest f bits of x are 1. -/
def popF : Nat → Nat → Nat
  | 0, _ => 0
  | f + 1, x => x % 2 + popF f (x / 2)

theorem popF_le : ∀ f x, popF f x ≤ f
  | 0, _ => Nat.le_refl _
  | f + 1, x => by have := popF_le f (x / 2); unfold popF; omega
theorem popF_zero : ∀ f, popF f 0 = 0
  | 0 => rfl
  | f + 1 => by unfold popF; simp [popF_zero f]

theorem popF_add : ∀ (a b x : Nat), popF (a + b) x = popF a x + popF b (x / 2 ^ a)
  | 0, b, x => by simp [popF]
  | a + 1, b, x => by
    rw [show a + 1 + b = (a + b) + 1 by omega]
    show x % 2 + popF (a + b) (x / 2) = x % 2 + popF a (x / 2) + popF b (x / 2 ^ (a + 1))
    rw [popF_add a b (x / 2), Nat.div_div_eq_div_mul, Nat.pow_succ, Nat.mul_comm 2]
    omega

/-- One bit more. -/
theorem popF_succ (k x : Nat) : popF (k + 1) x = popF k x + x / 2 ^ k % 2 := by
  rw [popF_add k 1 x]; simp [popF]

theorem popF_not : ∀ (f x y : Nat), x + y + 1 = 2 ^ f → popF f x + popF f y = f
  | 0, _, _, _ => rfl
  | f + 1, x, y, h => by
    unfold popF
    rw [Nat.pow_succ] at h
    have := popF_not f (x / 2) (y / 2) (by omega)
    omega

/-! ### Lanes of eight bits -/
def lanes (t : Nat → Nat) : Nat → Nat → Nat
  | 0, _ => 0
  | k + 1, x => t (x % 256) + 256 * lanes t k (x / 256)
def mk (c : Nat) : Nat → Nat
  | 0 => 0
  | k + 1 => c + 256 * mk c k

theorem and_lane (a b c d : Nat) (ha : a < 256) (hc : c < 256) : (a + 256 * b) &&& (c + 256 * d) = (a &&& c) + 256 * (b &&& d) := by
  have hac : a &&& c < 256 := Nat.lt_of_le_of_lt Nat.and_le_left ha
  have e1 : ((a + 256 * b) &&& (c + 256 * d)) % 2 ^ 8 = (a &&& c) := by
    rw [Nat.and_mod_two_pow, show (a + 256 * b) % 2 ^ 8 = a by omega, show (c + 256 * d) % 2 ^ 8 = c by omega]
  have e2 : ((a + 256 * b) &&& (c + 256 * d)) / 2 ^ 8 = (b &&& d) := by
    rw [Nat.and_div_two_pow, show (a + 256 * b) / 2 ^ 8 = b by omega, show (c + 256 * d) / 2 ^ 8 = d by omega]
  omega

def t1 (a : Nat) : Nat := (a / 2 &&& 85) + (a &&& 85)
def t2 (a : Nat) : Nat := (a / 4 &&& 51) + (a &&& 51)
def t3 (a : Nat) : Nat := (a / 16 + a) &&& 15

theorem t1_all : ∀ a : Fin 256, ∀ c : Fin 2, (a.val / 2 + 128 * c.val) &&& 85 = a.val / 2 &&& 85 := by decide +kernel
theorem t2_all : ∀ a : Fin 256, ∀ c : Fin 4, (a.val / 4 + 64 * c.val) &&& 51 = a.val / 4 &&& 51 := by decide +kernel
theorem t1_lt : ∀ a : Fin 256, t1 a.val < 256 := by decide +kernel
theorem t21_lt : ∀ a : Fin 256, t2 (t1 a.val) ≤ 68 ∧ t2 (t1 a.val) % 16 ≤ 4 := by decide +kernel
theorem t321_all : ∀ a : Fin 256, t3 (t2 (t1 a.val)) = popF 8 a.val := by decide +kernel

theorem step1 : ∀ (k x : Nat), x < 256 ^ k → (x / 2 &&& mk 85 k) + (x &&& mk 85 k) = lanes t1 k x
  | 0, x, _ => by simp [mk, lanes]
  | k + 1, x, h => by
    have hx : x / 256 < 256 ^ k := by rw [Nat.pow_succ] at h; omega
    have ih := step1 k (x / 256) hx
    have ha : x % 256 < 256 := Nat.mod_lt _ (by decide)
    have f := t1_all ⟨x % 256, ha⟩ ⟨x / 256 % 2, Nat.mod_lt _ (by decide)⟩
    simp only at f
    have e1 : x / 2 = (x % 256 / 2 + 128 * (x / 256 % 2)) + 256 * (x / 256 / 2) := by omega
    have e2 : x = x % 256 + 256 * (x / 256) := by omega
    have g1 : x / 2 &&& mk 85 (k + 1) = (x % 256 / 2 &&& 85) + 256 * (x / 256 / 2 &&& mk 85 k) := by
      rw [e1, show mk 85 (k + 1) = 85 + 256 * mk 85 k from rfl, and_lane _ _ _ _ (by omega) (by decide), f]
    have g2 : x &&& mk 85 (k + 1) = (x % 256 &&& 85) + 256 * (x / 256 &&& mk 85 k) := by
      have : (x % 256 + 256 * (x / 256)) &&& (85 + 256 * mk 85 k) = _ := and_lane (x % 256) (x / 256) 85 (mk 85 k) ha (by decide)
      rw [← e2] at this
      exact this
    rw [g1, g2, show lanes t1 (k + 1) x = t1 (x % 256) + 256 * lanes t1 k (x / 256) from rfl, ← ih]
    unfold t1
    omega

theorem step2 : ∀ (k x : Nat), (lanes t1 k x / 4 &&& mk 51 k) + (lanes t1 k x &&& mk 51 k) = lanes (fun a => t2 (t1 a)) k x
  | 0, x => by simp [mk, lanes]
  | k + 1, x => by
    have ih := step2 k (x / 256)
    have ha := t1_lt ⟨x % 256, Nat.mod_lt _ (by decide)⟩
    simp only at ha
    have ed : lanes t1 (k + 1) x = t1 (x % 256) + 256 * lanes t1 k (x / 256) := rfl
    have er : lanes (fun a => t2 (t1 a)) (k + 1) x = t2 (t1 (x % 256)) + 256 * lanes (fun a => t2 (t1 a)) k (x / 256) := rfl
    rw [ed, er, ← ih]
    generalize t1 (x % 256) = a at *
    generalize lanes t1 k (x / 256) = b at *
    have f := t2_all ⟨a, ha⟩ ⟨b % 4, Nat.mod_lt _ (by decide)⟩
    simp only at f
    have e1 : (a + 256 * b) / 4 = (a / 4 + 64 * (b % 4)) + 256 * (b / 4) := by omega
    rw [e1, show mk 51 (k + 1) = 51 + 256 * mk 51 k from rfl, and_lane _ _ _ _ (by omega) (by decide), f, and_lane _ _ _ _ ha (by decide)]
    unfold t2
    omega

theorem lanes_low : ∀ (k x : Nat), lanes (fun a => t2 (t1 a)) k x % 16 ≤ 4
  | 0, _ => by simp [lanes]
  | k + 1, x => by
    have ha := t21_lt ⟨x % 256, Nat.mod_lt _ (by decide)⟩
    simp only at ha
    have er : lanes (fun a => t2 (t1 a)) (k + 1) x = t2 (t1 (x % 256)) + 256 * lanes (fun a => t2 (t1 a)) k (x / 256) := rfl
    rw [er]
    omega

theorem step3 : ∀ (k x : Nat), (lanes (fun a => t2 (t1 a)) k x / 16 + lanes (fun a => t2 (t1 a)) k x) &&& mk 15 k = lanes (popF 8) k x
  | 0, x => by simp [mk, lanes]
  | k + 1, x => by
    have ih := step3 k (x / 256)
    have ha := t21_lt ⟨x % 256, Nat.mod_lt _ (by decide)⟩
    have hp := t321_all ⟨x % 256, Nat.mod_lt _ (by decide)⟩
    have hl := lanes_low k (x / 256)
    simp only at ha hp
    have er : lanes (fun a => t2 (t1 a)) (k + 1) x = t2 (t1 (x % 256)) + 256 * lanes (fun a => t2 (t1 a)) k (x / 256) := rfl
    have ep : lanes (popF 8) (k + 1) x = popF 8 (x % 256) + 256 * lanes (popF 8) k (x / 256) := rfl
    rw [er, ep, ← ih, ← hp]
    generalize t2 (t1 (x % 256)) = a at *
    generalize lanes (fun a => t2 (t1 a)) k (x / 256) = b at *
    have e1 : (a + 256 * b) / 16 + (a + 256 * b) = (a / 16 + a + 16 * (b % 16)) + 256 * (b / 16 + b) := by omega
    have f : (a / 16 + a + 16 * (b % 16)) &&& 15 = (a / 16 + a) &&& 15 := by
      have h1 := Nat.and_two_pow_sub_one_eq_mod (a / 16 + a + 16 * (b % 16)) 4
      have h2 := Nat.and_two_pow_sub_one_eq_mod (a / 16 + a) 4
      simp only [Nat.reducePow, Nat.reduceSub] at h1 h2
      rw [h1, h2]; omega
    rw [e1, show mk 15 (k + 1) = 15 + 256 * mk 15 k from rfl, and_lane _ _ _ _ (by omega) (by decide), f]
    rfl

theorem lanes_le (t : Nat → Nat) (c : Nat) (h : ∀ a : Fin 256, t a.val ≤ c) : ∀ k x, lanes t k x ≤ mk c k
  | 0, _ => Nat.le_refl _
  | k + 1, x => by
    have h1 := h ⟨x % 256, Nat.mod_lt _ (by decide)⟩
    have h2 := lanes_le t c h k (x / 256)
    simp only at h1
    show t (x % 256) + 256 * lanes t k (x / 256) ≤ c + 256 * mk c k
    omega

/-- The last steps: eight lanes, each at most 8, are added up. -/
theorem fold8 (p0 p1 p2 p3 p4 p5 p6 p7 x3 x4 x5 x6 : Nat) (h0 : p0 ≤ 8) (h1 : p1 ≤ 8) (h2 : p2 ≤ 8) (h3 : p3 ≤ 8) (h4 : p4 ≤ 8) (h5 : p5 ≤ 8) (h6 : p6 ≤ 8) (h7 : p7 ≤ 8)
    (e3 : x3 = p0 + 256 * (p1 + 256 * (p2 + 256 * (p3 + 256 * (p4 + 256 * (p5 + 256 * (p6 + 256 * p7)))))))
    (e4 : x4 = x3 + x3 / 256) (e5 : x5 = x4 + x4 / 65536) (e6 : x6 = x5 + x5 / 4294967296) : x6 % 128 = p0 + p1 + p2 + p3 + p4 + p5 + p6 + p7 := by
  have d3 : x3 / 256 = p1 + 256 * (p2 + 256 * (p3 + 256 * (p4 + 256 * (p5 + 256 * (p6 + 256 * p7))))) := by omega
  have f4 : x4 = (p0 + p1) + 256 * ((p1 + p2) + 256 * ((p2 + p3) + 256 * ((p3 + p4) + 256 * ((p4 + p5) + 256 * ((p5 + p6) + 256 * ((p6 + p7) + 256 * p7)))))) := by omega
  clear e3 e4 d3
  have d4 : x4 / 65536 = (p2 + p3) + 256 * ((p3 + p4) + 256 * ((p4 + p5) + 256 * ((p5 + p6) + 256 * ((p6 + p7) + 256 * p7)))) := by omega
  have f5 : x5 = (p0 + p1 + p2 + p3) + 256 * ((p1 + p2 + p3 + p4) + 256 * ((p2 + p3 + p4 + p5) + 256 * ((p3 + p4 + p5 + p6) + 256 * ((p4 + p5 + p6 + p7) + 256 * ((p5 + p6 + p7) + 256 * ((p6 + p7) + 256 * p7)))))) := by omega
  clear f4 e5 d4
  have d5 : x5 / 4294967296 = (p4 + p5 + p6 + p7) + 256 * ((p5 + p6 + p7) + 256 * ((p6 + p7) + 256 * p7)) := by omega
  omega

theorem popF_lanes (x : Nat) : popF 64 x = popF 8 (x % 256) + popF 8 (x / 256 % 256) + popF 8 (x / 256 / 256 % 256) + popF 8 (x / 256 / 256 / 256 % 256) + popF 8 (x / 256 / 256 / 256 / 256 % 256) + popF 8 (x / 256 / 256 / 256 / 256 / 256 % 256) + popF 8 (x / 256 / 256 / 256 / 256 / 256 / 256 % 256) + popF 8 (x / 256 / 256 / 256 / 256 / 256 / 256 / 256 % 256) := by
  have hm : ∀ y, popF 8 y = popF 8 (y % 256) := fun y => by simp only [popF]; omega
  have h : ∀ b y, popF (8 + b) y = popF 8 (y % 256) + popF b (y / 256) := fun b y => by rw [popF_add 8 b y, hm y]
  rw [show (64 : Nat) = 8 + 56 from rfl, h, show (56 : Nat) = 8 + 48 from rfl, h, show (48 : Nat) = 8 + 40 from rfl, h, show (40 : Nat) = 8 + 32 from rfl, h, show (32 : Nat) = 8 + 24 from rfl, h, show (24 : Nat) = 8 + 16 from rfl, h, show (16 : Nat) = 8 + 8 from rfl, h]
  rw [hm (x / 256 / 256 / 256 / 256 / 256 / 256 / 256)]
  omega
end Go.Proofs.YtgflkpccddfalaaGreatDoor
