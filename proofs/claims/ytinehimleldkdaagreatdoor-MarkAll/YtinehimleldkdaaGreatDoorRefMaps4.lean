/- The contract of the document's Arena: Maps. -/
import Derived.Test.YtinehimleldkdaaGreatDoorRefSweep2
namespace Go.Proofs.YtinehimleldkdaaGreatDoor
set_option maxRecDepth 100000
open Go.ChangeShapes Go.WideShapes Go.ChangeAt Go.RowKit

theorem mapsT_snoc (l : List Thg) (t : Thg) (s : Nat) (c : Int) (g : Bool → Bool) : mapsT (l ++ [t]) s c g 0 = if gs t.addr = s ∧ g t.mr = true then mapsT l s c g 0 ||| 2 ^ (gpl t.addr c).toNat else mapsT l s c g 0 := by
  unfold mapsT
  rw [List.foldl_append]
  rfl

/-- The two maps of the first j things. -/
def tkM (l : List Mt) (s : Nat) (c : Int) (j : Nat) : Nat := mapsT ((things l).take j) s c (fun _ => true) 0
def mrM (l : List Mt) (s : Nat) (c : Int) (j : Nat) : Nat := mapsT ((things l).take j) s c (fun b => b) 0
theorem things_take {l : List Mt} {j : Nat} {m : Mt} (h : l[j]? = some m) : (things l).take (j + 1) = (things l).take j ++ [m.t] := by rw [List.take_add_one, things_get h]; rfl
theorem tkM_succ {l : List Mt} {s j : Nat} {c : Int} {m : Mt} (h : l[j]? = some m) : tkM l s c (j + 1) = if gs m.t.addr = s then tkM l s c j ||| 2 ^ (gpl m.t.addr c).toNat else tkM l s c j := by
  unfold tkM
  rw [things_take h, mapsT_snoc]
  simp
theorem mrM_succ {l : List Mt} {s j : Nat} {c : Int} {m : Mt} (h : l[j]? = some m) : mrM l s c (j + 1) = if gs m.t.addr = s ∧ m.t.mr = true then mrM l s c j ||| 2 ^ (gpl m.t.addr c).toNat else mrM l s c j := by
  unfold mrM
  rw [things_take h, mapsT_snoc]
theorem or_pow_lt {x p : Nat} (hx : x < 18446744073709551616) (hp : p < 64) : x ||| 2 ^ p < 18446744073709551616 := Nat.or_lt_two_pow (n := 64) hx (Nat.pow_lt_pow_right (by decide) hp)

set_option maxHeartbeats 1000000 in
set_option maxRecDepth 100000 in
theorem rmaps_core (w : World) (B : Nat) (r : Rd) (cl : List Int) (l : List Mt) (s n : Nat) (hln : Hid (l.length = n)) (hn : n ≤ 100000) (h : Hid (RefAt w B r cl l)) (nc : Nat) (hnc : Hid (cl.length = nc)) (hs : s < nc) (c : Int) (hc : Hid (cl[s]? = some c))
    (hpl : Hid (∀ m, m ∈ l → gs m.t.addr = s → 0 ≤ gpl m.t.addr c)) :
    Calls Tryz.prog 21 #[.pointer (some ⟨r.rb, 0, none⟩), .int .i64 (s : Int)] w fun e w' => ∃ t m : Nat, e = .returned (.tuple #[.int .u64 (t : Int), .int .u64 (m : Int)]) ∧ Hid (t = tkM l s c n ∧ m = mrM l s c n) ∧ G w w' := by
  go_enter Tryz.func21, Tryz.ntmps21
  go_wp2_with fail
  go_loopw [6, 7, 8] (fun a b i wr => ∃ (j t m : Nat), j ≤ n ∧ t < 18446744073709551616 ∧ m < 18446744073709551616 ∧ a = .int .u64 t ∧ b = .int .u64 m ∧ i = .int .i64 j ∧ Hid (t = tkM l s c j ∧ m = mrM l s c j ∧ G w wr)) (fun _ _ i _ => n - (intOf i).toNat)
  case atStart => exact ⟨0, 0, 0, Nat.zero_le _, by decide, by decide, rfl, rfl, rfl, hide ⟨rfl, rfl, G.refl _⟩⟩
  case round =>
    obtain ⟨j, t, m, hj, ht, hm, rfl, rfl, rfl, R⟩ := hrel
    obtain ⟨e1, e2, g⟩ := unhide R
    have F := (unhide h).grown g
    have c1 : wr.cell? ⟨r.rb, 1, none⟩ = some (.slice r.lo n r.lc) := by have := F.c1; rw [unhide hln] at this; exact this
    have c0 : wr.cell? ⟨r.rb, 0, none⟩ = some (.slice (some ⟨r.cb, 0, none⟩) nc r.cc) := by have := F.c0; rw [unhide hnc] at this; exact this
    have v1 : wr.cell? ⟨r.cb, s, none⟩ = some (.int .i64 c) := F.cv s c (unhide hc)
    replace e1 := hide e1
    replace e2 := hide e2
    replace g := hide g
    clear R
    by_cases hjn : j = n
    · subst hjn
      clear F
      go_wp2_with fail
      go_ret2
      exact ⟨t, m, rfl, hide ⟨unhide e1, unhide e2⟩, unhide g⟩
    · have hjl : (j : Int) < (n : Int) := by omega
      obtain ⟨mt, hmt⟩ : ∃ m, l[j]? = some m := ⟨l[j]'(by rw [unhide hln]; omega), List.getElem?_eq_getElem _⟩
      obtain ⟨gb, hg, x0, _, x2⟩ := F.row j mt hmt
      rw [hg] at c1
      have q1 := tkM_succ (s := s) (c := c) hmt
      have q2 := mrM_succ (s := s) (c := c) hmt
      rw [← unhide e1] at q1
      rw [← unhide e2] at q2
      have hp0 := unhide hpl mt (List.mem_of_getElem? hmt)
      have hp1 := (gpl_r mt.t.addr c).2
      have CP := hide (fun w1 => rplace_any mt.t.addr c w1)
      have CS := hide (fun w1 => rspan_any mt.t.addr w1)
      generalize mt.t.addr = ad at *
      generalize mt.t.mr = mk at *
      obtain ⟨sp, hsp⟩ : ∃ x, gs ad = x := ⟨_, rfl⟩
      rw [hsp] at CS q1 q2 hp0
      clear F hg hmt hsp
      by_cases hh : sp = (s : Int)
      · subst hh
        have hb1 : ((s : Int) == (s : Int)) = true := by simp
        obtain ⟨p, hp⟩ := Int.eq_ofNat_of_zero_le (hp0 rfl)
        rw [hp] at CP q1 q2 hp1
        simp only [if_true, true_and, Int.toNat_natCast] at q1 q2
        have hp64 : p < 64 := by omega
        clear hp hp0 hp1
        obtain ⟨y, hy⟩ : ∃ y, y = 2 ^ p := ⟨_, rfl⟩
        have hy64 : y < 18446744073709551616 := by rw [hy]; show 2 ^ p < 2 ^ 64; exact Nat.pow_lt_pow_right (by decide) hp64
        have hsh : IntKind.u64.wrap (2 ^ min p 64) = (y : Int) := by
          rw [Nat.min_eq_left (by omega)]
          have e : (2 : Int) ^ p = ((2 ^ p : Nat) : Int) := by simp
          rw [IntKind.wrap_u64, e, ← hy]
          omega
        have ho1 : bits .or .u64 (t : Int) (y : Int) = ((t ||| y : Nat) : Int) := u64_or_nat _ _ ht hy64
        have ho2 : bits .or .u64 (m : Int) (y : Int) = ((m ||| y : Nat) : Int) := u64_or_nat _ _ hm hy64
        have l1 : t ||| y < 18446744073709551616 := by rw [hy]; exact or_pow_lt ht hp64
        have l2 : m ||| y < 18446744073709551616 := by rw [hy]; exact or_pow_lt hm hp64
        rw [← hy] at q1 q2
        replace hy := hide hy
        go_wp2_with fail
        refine (unhide CS _).mono ?_
        rintro e w2 ⟨rfl, rfl⟩
        go_wp2_with fail
        go_region_with ((go_at_call 53; refine (unhide CP _).mono ?_; rintro e w3 ⟨rfl, g3⟩; have x2 := G.cell g3 x2; have c1 := G.cell g3 c1; replace g3 := hide g3))
        all_goals
          have gg := hide (((unhide g).drew).trans (unhide g3))
          clear g g3 CS CP
          cases mk with
          | false =>
            simp only [Bool.false_eq_true, if_false] at q2
            go_wp2_with fail
            go_roundw
            case rel => exact ⟨j + 1, t ||| y, m, by omega, l1, hm, rfl, rfl, by go_num, hide ⟨q1.symm, q2.symm, unhide gg⟩⟩
            case measure => simp [intOf]; omega
          | true =>
            simp only [if_true] at q2
            go_wp2_with fail
            go_roundw
            case rel => exact ⟨j + 1, t ||| y, m ||| y, by omega, l1, l2, rfl, rfl, by go_num, hide ⟨q1.symm, q2.symm, unhide gg⟩⟩
            case measure => simp [intOf]; omega
      · have hb1 : (sp == (s : Int)) = false := by simpa using hh
        rw [if_neg hh] at q1
        rw [if_neg (fun x => hh x.1)] at q2
        go_wp2_with fail
        refine (unhide CS _).mono ?_
        rintro e w2 ⟨rfl, rfl⟩
        go_wp2_with fail
        go_roundw
        case rel => exact ⟨j + 1, t, m, by omega, ht, hm, rfl, rfl, by go_num, hide ⟨q1.symm, q2.symm, unhide g⟩⟩
        case measure => simp [intOf]; omega
end Go.Proofs.YtinehimleldkdaaGreatDoor
