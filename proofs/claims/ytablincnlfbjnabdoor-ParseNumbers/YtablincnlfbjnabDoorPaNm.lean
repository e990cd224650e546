/- ParseNumbers, plain: a text that prints a number, cut and read. -/
import Derived.Test.YtablincnlfbjnabDoorPaG
namespace Go.Proofs.YtablincnlfbjnabDoor
set_option maxRecDepth 100000
open Go.RowKit

theorem cut_word_at {x R : List UInt8} {o kd : Nat} (hg : gap (x ++ R) = 0) (hf : firstW (x ++ R) = (kd, x.length)) (hne : x ≠ []) : cutL (x ++ R) o = (⟨kd, x, o⟩ :: (cutL R (o + x.length)).1, (cutL R (o + x.length)).2) := by
  have hl : 0 < x.length := List.length_pos_iff.2 hne
  rw [cutL_word (by rw [hg]; simp; omega) (by rw [hg, List.drop_zero, hf]; dsimp only; omega), hg, List.drop_zero, hf]
  dsimp only
  rw [List.take_left, List.drop_left, Nat.add_zero]
theorem cut_blank {R : List UInt8} {o : Nat} : cutL (32 :: R) o = cutL R (o + 1) := by
  have := cutL_gap (l := 32 :: R) (o := o) (g := 1) (by simp) (gap_blank (by decide))
  simpa using this
theorem name_first {x R : List UInt8} (c : UInt8) (r : List UInt8) (hc : x = c :: r) (hl : letN c.toNat = true) (hx : ∀ d ∈ x, nmN d.toNat = true) (hR : leadW nmN R = 0) : firstW (x ++ R) = nameW x := by
  have h := leadW_app (p := nmN) hx hR
  subst hc
  rw [List.cons_append, firstW]
  rw [if_pos hl, ← List.cons_append, h, List.take_left]
theorem num_first {x R : List UInt8} (c : UInt8) (r : List UInt8) (hc : x = c :: r) (hx : ∀ d ∈ x, digN d.toNat = true) (hR : leadW digN R = 0) (hl : letN c.toNat = false) : firstW (x ++ R) = numW x := by
  have h := leadW_app (p := digN) hx hR
  have hd := hx c (by rw [hc]; simp)
  subst hc
  rw [List.cons_append, firstW]
  rw [if_neg (by rw [hl]; simp), if_pos hd, ← List.cons_append, h, List.take_left]
/-- 'func main() { print ' ahead of a text. -/
theorem cut_pre (X : List UInt8) : cutL ([102, 117, 110, 99, 32, 109, 97, 105, 110, 40, 41, 32, 123, 32, 112, 114, 105, 110, 116, 32] ++ X) 0 =
    (⟨2, [102, 117, 110, 99], 0⟩ :: ⟨1, [109, 97, 105, 110], 5⟩ :: ⟨4, [40], 9⟩ :: ⟨4, [41], 10⟩ :: ⟨4, [123], 12⟩ :: ⟨2, [112, 114, 105, 110, 116], 14⟩ :: (cutL X 20).1, (cutL X 20).2) := by
  have g0 : ∀ (c : UInt8) (R : List UInt8), blankN c.toNat = false → c ≠ 47 → gap (c :: R) = 0 := fun c R h h2 => gap_none h (fun e => h2 e.1)
  show cutL ([102, 117, 110, 99] ++ (32 :: ([109, 97, 105, 110] ++ ([40] ++ ([41] ++ (32 :: ([123] ++ (32 :: ([112, 114, 105, 110, 116] ++ (32 :: X)))))))))) 0 = _
  rw [cut_word_at (kd := 2) (g0 _ _ (by decide) (by decide)) (by rw [name_first 102 _ rfl (by decide) (by decide) rfl]; decide) (by simp)]
  rw [cut_blank]
  rw [cut_word_at (kd := 1) (g0 _ _ (by decide) (by decide)) (by rw [name_first 109 _ rfl (by decide) (by decide) rfl]; decide) (by simp)]
  rw [cut_word_at (kd := 4) (g0 _ _ (by decide) (by decide)) rfl (by simp)]
  rw [cut_word_at (kd := 4) (g0 _ _ (by decide) (by decide)) rfl (by simp)]
  rw [cut_blank]
  rw [cut_word_at (kd := 4) (g0 _ _ (by decide) (by decide)) rfl (by simp)]
  rw [cut_blank]
  rw [cut_word_at (kd := 2) (g0 _ _ (by decide) (by decide)) (by rw [name_first 112 _ rfl (by decide) (by decide) rfl]; decide) (by simp)]
  rw [cut_blank]
  rfl
/-- A text that prints a number. -/
def nmT (ds : List UInt8) : List UInt8 := [102, 117, 110, 99, 32, 109, 97, 105, 110, 40, 41, 32, 123, 32, 112, 114, 105, 110, 116, 32] ++ (ds ++ [59, 32, 125])
def nmW (ds : List UInt8) (n : Nat) : List Wd := [⟨2, [102, 117, 110, 99], 0⟩, ⟨1, [109, 97, 105, 110], 5⟩, ⟨4, [40], 9⟩, ⟨4, [41], 10⟩, ⟨4, [123], 12⟩, ⟨2, [112, 114, 105, 110, 116], 14⟩, ⟨3, ds, 20⟩, ⟨4, [59], 20 + n⟩, ⟨4, [125], 22 + n⟩, ⟨0, [], 23 + n⟩]
theorem dig_let {c : UInt8} (h : digN c.toNat = true) : letN c.toNat = false ∧ blankN c.toNat = false ∧ c ≠ 47 := by
  simp only [digN, Bool.and_eq_true, decide_eq_true_eq] at h
  refine ⟨?_, ?_, fun e => by rw [e] at h; exact absurd h (by decide)⟩
  · simp only [letN, Bool.or_eq_false_iff, Bool.and_eq_false_iff, decide_eq_false_iff_not, beq_eq_false_iff_ne]
    omega
  · simp only [blankN, Bool.or_eq_false_iff, beq_eq_false_iff_ne]
    omega
theorem cut_num {ds : List UInt8} (hne : ds ≠ []) (hd : ∀ d ∈ ds, digN d.toNat = true) (hf : fitsP ds = true) : cutL (nmT ds) 0 = (nmW ds ds.length, none) := by
  unfold nmT nmW
  rw [cut_pre]
  obtain ⟨c, r, hc⟩ : ∃ c r, ds = c :: r := by cases ds with | nil => exact absurd rfl hne | cons c r => exact ⟨c, r, rfl⟩
  obtain ⟨h1, h2, h3⟩ := dig_let (hd c (by rw [hc]; simp))
  have hg : gap (ds ++ [59, 32, 125]) = 0 := by rw [hc, List.cons_append]; exact gap_none h2 (fun e => h3 e.1)
  have hfst : firstW (ds ++ [59, 32, 125]) = (3, ds.length) := by rw [num_first c r hc hd rfl h1]; unfold numW; rw [if_pos hf]
  rw [cut_word_at hg hfst hne]
  have h4 : cutL [59, 32, 125] (20 + ds.length) = ([⟨4, [59], 20 + ds.length⟩, ⟨4, [125], 22 + ds.length⟩, ⟨0, [], 23 + ds.length⟩], none) := by
    have g0 : ∀ (c : UInt8) (R : List UInt8), blankN c.toNat = false → c ≠ 47 → gap (c :: R) = 0 := fun c R h h2 => gap_none h (fun e => h2 e.1)
    show cutL ([59] ++ (32 :: ([125] ++ []))) (20 + ds.length) = _
    rw [cut_word_at (kd := 4) (g0 _ _ (by decide) (by decide)) rfl (by simp), cut_blank, cut_word_at (kd := 4) (g0 _ _ (by decide) (by decide)) rfl (by simp), cutL_end gap_nil]
    simp only [List.length_cons, List.length_nil, Nat.zero_add, Nat.add_zero]
    simp only [show 20 + ds.length + 1 + 1 = 22 + ds.length by omega, show 20 + ds.length + 3 = 23 + ds.length by omega]
  rw [h4]
theorem cut_big {ds : List UInt8} (hne : ds ≠ []) (hd : ∀ d ∈ ds, digN d.toNat = true) (hf : fitsP ds = false) : (cutL (nmT ds) 0).2 = some 20 := by
  unfold nmT
  rw [cut_pre]
  obtain ⟨c, r, hc⟩ : ∃ c r, ds = c :: r := by cases ds with | nil => exact absurd rfl hne | cons c r => exact ⟨c, r, rfl⟩
  obtain ⟨h1, h2, h3⟩ := dig_let (hd c (by rw [hc]; simp))
  have hg : gap (ds ++ [59, 32, 125]) = 0 := by rw [hc, List.cons_append]; exact gap_none h2 (fun e => h3 e.1)
  have hfst : (firstW (ds ++ [59, 32, 125])).2 = 0 := by rw [num_first c r hc hd rfl h1]; unfold numW; rw [if_neg (by rw [hf]; simp)]
  rw [cutL_bad (by rw [hg]; simp) (by rw [hg, List.drop_zero]; exact hfst), hg]
/-- The words are read: a program of one func whose block prints the number. -/
def nmTree (ds : List UInt8) : Tt := .mk [112, 114, 111, 103, 114, 97, 109] [] 0 [.mk [102, 117, 110, 99] [109, 97, 105, 110] 0 [.mk [112, 97, 114, 97, 109, 115] [] 10 [], .mk [110, 111, 110, 101] [] 12 [], .mk [98, 108, 111, 99, 107] [] 12 [.mk [112, 114, 105, 110, 116] [] 14 [.mk [110, 117, 109, 98, 101, 114] ds 20 []]]]]
theorem read_48 (r : List UInt8) (n : Nat) : parseP (nmW (48 :: r) n) = (nmTree (48 :: r), 0, 0) := by kernel_rfl
theorem read_49 (r : List UInt8) (n : Nat) : parseP (nmW (49 :: r) n) = (nmTree (49 :: r), 0, 0) := by kernel_rfl
theorem read_50 (r : List UInt8) (n : Nat) : parseP (nmW (50 :: r) n) = (nmTree (50 :: r), 0, 0) := by kernel_rfl
theorem read_51 (r : List UInt8) (n : Nat) : parseP (nmW (51 :: r) n) = (nmTree (51 :: r), 0, 0) := by kernel_rfl
theorem read_52 (r : List UInt8) (n : Nat) : parseP (nmW (52 :: r) n) = (nmTree (52 :: r), 0, 0) := by kernel_rfl
theorem read_53 (r : List UInt8) (n : Nat) : parseP (nmW (53 :: r) n) = (nmTree (53 :: r), 0, 0) := by kernel_rfl
theorem read_54 (r : List UInt8) (n : Nat) : parseP (nmW (54 :: r) n) = (nmTree (54 :: r), 0, 0) := by kernel_rfl
theorem read_55 (r : List UInt8) (n : Nat) : parseP (nmW (55 :: r) n) = (nmTree (55 :: r), 0, 0) := by kernel_rfl
theorem read_56 (r : List UInt8) (n : Nat) : parseP (nmW (56 :: r) n) = (nmTree (56 :: r), 0, 0) := by kernel_rfl
theorem read_57 (r : List UInt8) (n : Nat) : parseP (nmW (57 :: r) n) = (nmTree (57 :: r), 0, 0) := by kernel_rfl
theorem read_num (c : UInt8) (r : List UInt8) (n : Nat) (h : digN c.toNat = true) : parseP (nmW (c :: r) n) = (nmTree (c :: r), 0, 0) := by
  have : c = 48 ∨ c = 49 ∨ c = 50 ∨ c = 51 ∨ c = 52 ∨ c = 53 ∨ c = 54 ∨ c = 55 ∨ c = 56 ∨ c = 57 := by
    simp only [digN, Bool.and_eq_true, decide_eq_true_eq] at h
    have hc : c.toNat = 48 ∨ c.toNat = 49 ∨ c.toNat = 50 ∨ c.toNat = 51 ∨ c.toNat = 52 ∨ c.toNat = 53 ∨ c.toNat = 54 ∨ c.toNat = 55 ∨ c.toNat = 56 ∨ c.toNat = 57 := by omega
    rcases hc with e | e | e | e | e | e | e | e | e | e <;> simp [← UInt8.toNat_inj, e]
  rcases this with rfl | rfl | rfl | rfl | rfl | rfl | rfl | rfl | rfl | rfl
  · exact read_48 r n
  · exact read_49 r n
  · exact read_50 r n
  · exact read_51 r n
  · exact read_52 r n
  · exact read_53 r n
  · exact read_54 r n
  · exact read_55 r n
  · exact read_56 r n
  · exact read_57 r n
end Go.Proofs.YtablincnlfbjnabDoor
