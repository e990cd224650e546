/- The program's Cycle while nothing is held: Barrier, Born, Scan while it is off; Take; Start; what steps till it is off. -/
import Derived.Test.YtkhjbefogofhlaaDoorCycK4
namespace Go.Proofs.YtkhjbefogofhlaaDoor
set_option maxRecDepth 100000
open Go.ChangeShapes Go.WideShapes Go.ChangeAt Go.RowKit Go.Maps
section
variable {W w w' : World} {xl : Ld} {b : Kn} {hb : Nat} {s s' : Pk}
theorem k_barrier0 {al : Al} {kept done : Int} (h : Hid (KS W w xl b al 0 kept done)) (x y i : Int) : Calls Tryd.prog 13 #[.pointer (some ⟨b.cb, 0, none⟩), .int .i64 x, .int .i64 y, .int .i64 i] w fun e w' => e = .returned (.tuple #[]) ∧ w' = w := by
  have C := hide (k_shades h)
  go_enter Tryd.func13, Tryd.ntmps13
  go_wp2_with fail
  refine (unhide C).mono ?_
  rintro r w1 ⟨rfl, hw1⟩
  subst hw1
  clear C
  go_wp2_with fail
  go_returns
  exact ⟨rfl, rfl⟩
theorem k_born0 {al : Al} {kept done : Int} (h : Hid (KS W w xl b al 0 kept done)) (i : Int) : Calls Tryd.prog 14 #[.pointer (some ⟨b.cb, 0, none⟩), .int .i64 i] w fun e w' => e = .returned (.tuple #[]) ∧ w' = w := by
  have C := hide (k_shades h)
  go_enter Tryd.func14, Tryd.ntmps14
  go_wp2_with fail
  refine (unhide C).mono ?_
  rintro r w1 ⟨rfl, hw1⟩
  subst hw1
  clear C
  go_wp2_with fail
  go_end0
  exact ⟨rfl, rfl⟩
theorem k_scan0 {al : Al} {kept done : Int} (h : Hid (KS W w xl b al 0 kept done)) (r : Value) (i : Int) : Calls Tryd.prog 16 #[.pointer (some ⟨b.cb, 0, none⟩), r, .int .i64 i] w fun e w' => e = .returned (.bool false) ∧ w' = w := by
  have C := hide (k_shades h)
  go_enter Tryd.func16, Tryd.ntmps16
  go_wp2_with fail
  refine (unhide C).mono ?_
  rintro r w1 ⟨rfl, hw1⟩
  subst hw1
  clear C
  go_wp2_with fail
  go_ret
  exact ⟨rfl, rfl⟩
theorem l_clear {al : Al} (h : Hid (StL W w xl al)) : Calls Tryd.prog 29 #[.pointer (some ⟨xl.d.ab, 0, none⟩)] w fun e w' => e = .returned (.tuple #[]) ∧ StL W w' xl ⟨al.a.clear, al.u⟩ ∧ TnL w w' xl :=
  (st_clear (hide (unhide h).st)).mono fun _ _ hh => ⟨hh.1, (unhide h).turn hh.2.1 hh.2.2 rfl, TnL.of_Tn hh.2.2⟩
/-- A taking: the place is marked at once, while things are shaded. -/
def Pk.take (s : Pk) (n : Int) : Pk := if (s.al.take n).2.2 = 0 ∧ (s.ph = 1 ∨ s.ph = 2) then ⟨⟨(s.al.take n).1.a.markA (s.al.take n).2.1, (s.al.take n).1.u⟩, s.ph, s.kept, s.done⟩ else ⟨(s.al.take n).1, s.ph, s.kept, s.done⟩
theorem k_take_no (h : Hid (KH W w xl b hb s)) (n v e : Int) (al' : Al) (hR : Hid (s.al.take n = (al', v, e))) (he : (e != 0) = true) : Calls Tryd.prog 8 #[.pointer (some ⟨b.cb, 0, none⟩), .int .i64 n] w fun r w' => r = .returned (.tuple #[.int .i64 0, .int .i64 e]) ∧ KH W w' xl b hb ⟨al', s.ph, s.kept, s.done⟩ := by
  have c1 := (unhide h).ks.c1
  have C := hide (l_take (hide (unhide h).ks.st) n)
  rw [unhide hR] at C
  simp only at C
  go_enter Tryd.func8, Tryd.ntmps8
  go_wp2_with fail
  refine (unhide C).mono ?_
  rintro r w1 ⟨rfl, s1, t1⟩
  have h1 := hide ((unhide h).turn (s' := ⟨al', s.ph, s.kept, s.done⟩) ((unhide h).ks.turn s1 t1) t1)
  clear C s1 t1
  go_wp2_with fail
  go_ret2
  exact ⟨rfl, unhide h1⟩
theorem k_take_off (h : Hid (KH W w xl b hb s)) (n v : Int) (al' : Al) (hR : Hid (s.al.take n = (al', v, 0))) (hp : (s.ph == 1 || s.ph == 2) = false) : Calls Tryd.prog 8 #[.pointer (some ⟨b.cb, 0, none⟩), .int .i64 n] w fun r w' => r = .returned (.tuple #[.int .i64 v, .int .i64 0]) ∧ KH W w' xl b hb ⟨al', s.ph, s.kept, s.done⟩ := by
  have c1 := (unhide h).ks.c1
  have C := hide (l_take (hide (unhide h).ks.st) n)
  rw [unhide hR] at C
  simp only at C
  go_enter Tryd.func8, Tryd.ntmps8
  go_wp2_with fail
  refine (unhide C).mono ?_
  rintro r w1 ⟨rfl, s1, t1⟩
  have h1 := hide ((unhide h).turn (s' := ⟨al', s.ph, s.kept, s.done⟩) ((unhide h).ks.turn s1 t1) t1)
  have C2 := hide (k_shades (hide (unhide h1).ks))
  simp only [hp] at C2
  clear C s1 t1
  go_wp2_with fail
  refine (unhide C2).mono ?_
  rintro r w2 ⟨rfl, hw2⟩
  subst hw2
  clear C2
  go_wp2_with fail
  go_ret2
  exact ⟨rfl, unhide h1⟩
theorem k_take_on (h : Hid (KH W w xl b hb s)) (n v : Int) (al' : Al) (hR : Hid (s.al.take n = (al', v, 0))) (hp : (s.ph == 1 || s.ph == 2) = true) : Calls Tryd.prog 8 #[.pointer (some ⟨b.cb, 0, none⟩), .int .i64 n] w fun r w' => r = .returned (.tuple #[.int .i64 v, .int .i64 0]) ∧ KH W w' xl b hb ⟨⟨al'.a.markA v, al'.u⟩, s.ph, s.kept, s.done⟩ := by
  have c1 := (unhide h).ks.c1
  have C := hide (l_take (hide (unhide h).ks.st) n)
  rw [unhide hR] at C
  simp only at C
  go_enter Tryd.func8, Tryd.ntmps8
  go_wp2_with fail
  refine (unhide C).mono ?_
  rintro r w1 ⟨rfl, s1, t1⟩
  have h1 := hide ((unhide h).turn (s' := ⟨al', s.ph, s.kept, s.done⟩) ((unhide h).ks.turn s1 t1) t1)
  have C2 := hide (k_shades (hide (unhide h1).ks))
  simp only [hp] at C2
  have c0 := (unhide h1).ks.c0
  have C3 := hide (ls_mark (hide (unhide h1).ks.st) v)
  clear C s1 t1
  go_wp2_with fail
  refine (unhide C2).mono ?_
  rintro r w2 ⟨rfl, hw2⟩
  subst hw2
  clear C2
  go_wp2_with fail
  refine (unhide C3).mono ?_
  rintro r w3 ⟨rfl, s3, t3⟩
  have h3 := hide ((unhide h1).turn (s' := ⟨⟨al'.a.markA v, al'.u⟩, s.ph, s.kept, s.done⟩) ((unhide h1).ks.turn s3 t3) t3)
  clear C3 s3 t3
  go_wp2_with fail
  go_ret2
  exact ⟨rfl, unhide h3⟩
theorem k_start1 (h : Hid (KH W w xl b hb s)) (hp : (s.ph != 0) = true) (r : Value) : Calls Tryd.prog 7 #[.pointer (some ⟨b.cb, 0, none⟩), r] w fun e w' => e = .returned (.bool false) ∧ w' = w := by
  have c4 := (unhide h).ks.c4
  go_enter Tryd.func7, Tryd.ntmps7
  go_wp2_with fail
  go_ret
  exact ⟨rfl, rfl⟩
end
end Go.Proofs.YtkhjbefogofhlaaDoor
