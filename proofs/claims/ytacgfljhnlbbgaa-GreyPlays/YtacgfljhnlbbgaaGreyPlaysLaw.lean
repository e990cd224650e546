/- GreyPlays answers true, whatever the calls. -/
import Derived.Test.YtacgfljhnlbbgaaGreyActs
namespace Go.Proofs.Ytacgfljhnlbbgaa
open Go.RowKit Go.Maps Go.ChangeShapes Go.WideShapes Go.ChangeAt Go.Deep

set_option maxHeartbeats 4000000 in
set_option maxRecDepth 100000 in
theorem plays_core (ao : Option Addr) (n c : Nat) (l : List Ga) (w : World) (hn : n ≤ 200) (HA : Hid (IsGa w ao n l)) :
    Calls Try.prog 4 #[.slice ao n c] w fun e w' => e = .returned (.bool true) ∧ G w w' := by
  go_enter Try.func4, Try.ntmps4
  go_wp2_with fail
  refine (awake_true w).mono ?_
  rintro e w1 ⟨rfl, g1⟩
  replace g1 := hide g1
  go_wp2_with fail
  refine (p_new g1).mono ?_
  rintro e w2 ⟨q, rfl, R2⟩
  replace R2 := hide R2
  clear g1
  go_wp2_with fail
  go_loopw [4, 5] (fun v c wr => ∃ (j k : Nat) (ys : List Int) (bo : Option Addr) (cap : Nat), j ≤ n ∧ k ≤ j ∧ Hid (ys.length = k) ∧ v = .slice bo k cap ∧ c = .int .i64 j ∧ Hid (Pm w wr q ys bo cap ys)) (fun _ c _ => n - (intOf c).toNat)
  case atStart => exact ⟨0, 0, [], none, 0, Nat.zero_le _, Nat.le_refl _, rfl, rfl, rfl, R2⟩
  case round =>
    obtain ⟨j, k, ys, bo, cap, hj, hkj, hk, rfl, rfl, R⟩ := hrel
    clear R2
    by_cases hjn : j = n
    · subst hjn
      have hkk : k ≤ 200 := by omega
      go_wp2_with fail
      refine (p_all hk R (by omega)).mono ?_
      rintro e wA ⟨gA, rfl, _, PA⟩
      replace PA := hide PA
      clear R
      go_wp2_with fail
      go_loopw [9] (fun c wq => ∃ i : Nat, i ≤ k ∧ c = .int .i64 i ∧ Hid (Pg w wq q ys bo cap ys gA)) (fun c _ => k - (intOf c).toNat)
      case atStart => exact ⟨0, Nat.zero_le _, rfl, PA⟩
      case round =>
        obtain ⟨i, hi, rfl, P⟩ := hrel
        clear PA
        by_cases hik : i = k
        · subst hik
          have R := hide (unhide P).p
          clear P
          go_wp2_with fail
          refine (p_all hk R (by omega)).mono ?_
          rintro e wB ⟨gB, rfl, iB, PB⟩
          have iC := hide PB.p.r.is
          replace iB := hide iB
          have RB := hide PB.p
          clear PB R
          go_wp2_with fail
          refine (nums_true wB _ _ _ _ i _ (unhide hk) (by omega) iB iC).mono ?_
          rintro e wC ⟨rfl, gC⟩
          have RC := hide ((unhide RB).g gC)
          clear RB iB iC gC
          go_wp2_with fail
          go_ret
          exact ⟨rfl, (unhide RC).below⟩
        · have hil : (i : Int) < (k : Int) := by omega
          have hf := (unhide P).fz i
          obtain ⟨u, hu⟩ := Option.isSome_iff_exists.1 ((unhide P).cs i (by have := unhide hk; omega))
          have P2 := hide ((unhide P).set (i := i) (.int .i64 99) (by have := unhide hk; omega))
          go_wp2_with fail
          go_roundw
          case rel => exact ⟨i + 1, by omega, by go_num, P2⟩
          case measure => simp [intOf]; omega
    · have hjl : (j : Int) < (n : Int) := by omega
      have hjn' : j < n := by omega
      obtain ⟨s, b, off, rfl, hbW, e0, e1⟩ := (unhide HA).at_ hjn'
      obtain ⟨nx, ad⟩ := s
      simp only at e0 e1
      have y0 := old_cell (unhide R).below hbW e0
      have y1 := old_cell (unhide R).below hbW e1
      replace e0 := hide e0
      replace e1 := hide e1
      cases nx with
      | false =>
        go_wp2_with fail
        refine (p_add R (by have := unhide hk; omega) ad).mono ?_
        rintro e w3 ⟨rfl, R3⟩
        clear y0 y1 R
        have y1 := old_cell R3.below hbW (unhide e1)
        have hb3 : b < w3.heap.size := Nat.lt_of_lt_of_le hbW R3.below.size
        have R4 := hide (R3.g (G.alloc w3 (.cells #[.int .i64 ad] 2)))
        have hx : Hid ((w3.alloc (.cells #[.int .i64 ad] 2)).cell? ⟨w3.heap.size, 0, none⟩ = some (.int .i64 ad)) := hide (by rw [World.cell?_alloc_new]; rfl)
        clear R3
        obtain ⟨m, hm⟩ : ∃ m, k + 1 = m := ⟨_, rfl⟩
        replace hm := hide hm
        go_wp2_with (at_builtin; refine wpl_app rfl (.tmp 35) (.tmp 41) rfl k m (unhide hk) (unhide hm) rfl (unhide R4).r (unhide R4).below.size w3.heap.size 1 ad rfl (unhide hx) (by have := unhide hk; omega) ?_; intro bo7 cap7 w7 A; have R := hide ((unhide R4).app A); clear A R4 hx)
        have hk7 : Hid ((ys ++ [ad]).length = m) := hide (by have := unhide hk; have := unhide hm; simp; omega)
        have hmj : m ≤ j + 1 := by have := unhide hm; omega
        obtain ⟨b2, hbn⟩ : ∃ b2, (m + 15) / 16 = b2 := ⟨_, rfl⟩
        have hbi : ((m : Int) + 15) / 16 = (b2 : Int) := by omega
        replace hbn := hide hbn
        have hkk : ((m : Int) != (m : Int)) = false := by simp
        have hbb : ((b2 : Int) != (b2 : Int)) = false := by simp
        refine (p_len hk7 R).mono ?_
        rintro e w8 ⟨rfl, rfl⟩
        go_wp2_with fail
        refine (p_blocks hk7 hbn R (by omega)).mono ?_
        rintro e w9 ⟨rfl, rfl⟩
        go_wp2_with fail
        refine (p_all hk7 R (by omega)).mono ?_
        rintro e wA ⟨gA, rfl, iA, PA⟩
        have iB := hide PA.p.r.is
        replace iA := hide iA
        have RA := hide PA.p
        clear PA R
        go_wp2_with fail
        refine (nums_true wA _ _ _ _ m (ys ++ [ad]) (unhide hk7) (by omega) iA iB).mono ?_
        rintro e wC ⟨rfl, gC⟩
        have RC := hide ((unhide RA).g gC)
        clear RA iA iB gC
        go_wp2_with fail
        go_roundw
        case rel => exact ⟨j + 1, m, _, _, _, by omega, by omega, hk7, rfl, by go_num, RC⟩
        case measure => simp [intOf]; omega
      | true =>
        cases ys with
        | nil =>
          have hk0 : ¬ ((0 : Int) < (k : Int)) := by have := unhide hk; simp at this; omega
          have hkz : k = 0 := by omega
          replace hkz := hide hkz
          go_wp2_with fail
          refine (p_next_none R).mono ?_
          rintro e w3 ⟨rfl, rfl⟩
          clear y0 y1
          have hk9 : Hid (([] : List Int).length = k) := hide (by rw [unhide hkz]; rfl)
          obtain ⟨b2, hbn⟩ : ∃ b2, (k + 15) / 16 = b2 := ⟨_, rfl⟩
          have hbi : ((k : Int) + 15) / 16 = (b2 : Int) := by omega
          replace hbn := hide hbn
          have hkk : ((k : Int) != (k : Int)) = false := by simp
          have hbb : ((b2 : Int) != (b2 : Int)) = false := by simp
          go_wp2_with fail
          refine (p_len (xs := []) hk9 R).mono ?_
          rintro e w8 ⟨rfl, rfl⟩
          go_wp2_with fail
          refine (p_blocks (xs := []) hk9 hbn R (by omega)).mono ?_
          rintro e w9 ⟨rfl, rfl⟩
          go_wp2_with fail
          refine (p_all (xs := []) hk9 R (by omega)).mono ?_
          rintro e wA ⟨gA, rfl, iA, PA⟩
          have iB := hide PA.p.r.is
          replace iA := hide iA
          have RA := hide PA.p
          clear PA R
          go_wp2_with fail
          refine (nums_true wA _ _ _ _ 0 [] rfl (by omega) iA iB).mono ?_
          rintro e wC ⟨rfl, gC⟩
          have RC := hide ((unhide RA).g gC)
          clear RA iA iB gC
          go_wp2_with fail
          go_roundw
          case rel => exact ⟨j + 1, 0, [], _, _, by omega, by omega, hide rfl, rfl, by go_num, RC⟩
          case measure => simp [intOf]; omega
        | cons y t =>
          obtain ⟨m, hm⟩ : ∃ m, t.length = m := ⟨_, rfl⟩
          have hkm : k - 1 = m := by have := unhide hk; simp at this; omega
          have hkp : (0 : Int) < (k : Int) := by have := unhide hk; simp at this; omega
          have hk1 : (1 : Int) ≤ (k : Int) := by omega
          have hmn : t.length ≤ 1000 := by omega
          have hmj : m ≤ j + 1 := by omega
          replace hm := hide hm
          go_wp2_with fail
          refine (p_next R hmn).mono ?_
          rintro e w3 ⟨rfl, R3⟩
          obtain ⟨g, o2, rfl, c0, hcap, R5⟩ := R3.tail
          clear y0 y1 R R3
          have hyy : (y != y) = false := by simp
          by_cases hc1 : cap = 1
          · subst hc1
            rw [if_pos rfl] at R5
            have R := hide R5
            clear R5
            obtain ⟨b2, hbn⟩ : ∃ b2, (m + 15) / 16 = b2 := ⟨_, rfl⟩
            have hbi : ((m : Int) + 15) / 16 = (b2 : Int) := by omega
            replace hbn := hide hbn
            have hkk : ((m : Int) != (m : Int)) = false := by simp
            have hbb : ((b2 : Int) != (b2 : Int)) = false := by simp
            go_wp2_with fail
            refine (p_len hm R).mono ?_
            rintro e w8 ⟨rfl, rfl⟩
            go_wp2_with fail
            refine (p_blocks hm hbn R (by omega)).mono ?_
            rintro e w9 ⟨rfl, rfl⟩
            go_wp2_with fail
            refine (p_all hm R (by omega)).mono ?_
            rintro e wA ⟨gA, rfl, iA, PA⟩
            have iB := hide PA.p.r.is
            replace iA := hide iA
            have RA := hide PA.p
            clear PA R
            go_wp2_with fail
            refine (nums_true wA _ _ _ _ m t (unhide hm) (by omega) iA iB).mono ?_
            rintro e wC ⟨rfl, gC⟩
            have RC := hide ((unhide RA).g gC)
            clear RA iA iB gC
            go_wp2_with fail
            go_roundw
            case rel => exact ⟨j + 1, m, _, _, _, by omega, by omega, hm, rfl, by go_num, RC⟩
            case measure => simp [intOf]; omega
          · rw [if_neg hc1] at R5
            have R := hide R5
            clear R5
            obtain ⟨b2, hbn⟩ : ∃ b2, (m + 15) / 16 = b2 := ⟨_, rfl⟩
            have hbi : ((m : Int) + 15) / 16 = (b2 : Int) := by omega
            replace hbn := hide hbn
            have hkk : ((m : Int) != (m : Int)) = false := by simp
            have hbb : ((b2 : Int) != (b2 : Int)) = false := by simp
            go_wp2_with fail
            refine (p_len hm R).mono ?_
            rintro e w8 ⟨rfl, rfl⟩
            go_wp2_with fail
            refine (p_blocks hm hbn R (by omega)).mono ?_
            rintro e w9 ⟨rfl, rfl⟩
            go_wp2_with fail
            refine (p_all hm R (by omega)).mono ?_
            rintro e wA ⟨gA, rfl, iA, PA⟩
            have iB := hide PA.p.r.is
            replace iA := hide iA
            have RA := hide PA.p
            clear PA R
            go_wp2_with fail
            refine (nums_true wA _ _ _ _ m t (unhide hm) (by omega) iA iB).mono ?_
            rintro e wC ⟨rfl, gC⟩
            have RC := hide ((unhide RA).g gC)
            clear RA iA iB gC
            go_wp2_with fail
            go_roundw
            case rel => exact ⟨j + 1, m, _, _, _, by omega, by omega, hm, rfl, by go_num, RC⟩
            case measure => simp [intOf]; omega

set_option maxHeartbeats 400000 in
theorem plays_many (ao : Option Addr) (n c : Nat) (w : World) (hn : 200 < (n : Int)) :
    Calls Try.prog 4 #[.slice ao n c] w fun e w' => e = .returned (.bool true) ∧ G w w' := by
  go_enter Try.func4, Try.ntmps4
  go_wp2_with fail
  refine (awake_true w).mono ?_
  rintro e w1 ⟨rfl, g1⟩
  replace g1 := hide g1
  go_wp2_with fail
  go_ret
  exact ⟨rfl, unhide g1⟩

theorem walk_GreyPlays (ao : Option Addr) (n c : Nat) (l : List Ga) {w : World} (h : IsGa w ao n l) (_w : World) :
    Calls Try.prog 4 #[.slice ao n c] w fun e w' => e = .returned (.bool true) ∧ G w w' := by
  by_cases hn : 200 < n
  · exact plays_many ao n c w (by omega)
  · exact plays_core ao n c l w (by omega) (hide h)

set_option maxRecDepth 100000 in
theorem lifted_GreyPlays (os : Os) (started : os.Started) (H : Type) (enc : TypeId × Value → H) :
    ReturnsInHanded {} Try.checked os 4 .any (Rows.greyPlaysSpec.pre6 enc Try.prog Try.f4 Rows.greyPlaysRow.domain false) (Rows.greyPlaysSpec.post enc Try.prog Try.f4 false true false false) := by
  refine returnsInHanded_of_change (C := Try.checked) own started (by kernel_rfl) Try.func4
    (ChangeSpec.witness6 (enc := enc) (C := Try.checked) false ⟨#[], #[.slice none 0 0], []⟩ 8 (by kernel_rfl) (by kernel_rfl) (by kernel_rfl) (by kernel_rfl)) ?_
  intro W base args ds gs before hval0 hW _ _
  have hval : ∀ (j : Nat) t v, Try.f4.params[j]? = some t → args[j]? = some v → Value.okWide Try.prog W .any base t v := hval0
  have hW' := hW
  obtain ⟨p, q, hA0, hV, rfl, hfz, hnd⟩ := hW
  have hA : DataW.TrodAll enc Try.prog W 0 (fun _ => true) true Try.f4.params.toList args.toList ds p := hA0
  rw [Try.params4] at hA hval
  obtain ⟨v0, vs0, d0, ds0, p0, q0, hargs, rfl, rfl, h0, r0⟩ := trodAll_cons hA
  obtain ⟨rfl, rfl, rfl⟩ := trodAll_nil r0
  obtain rfl : args = #[v0] := by cases args; simp_all
  obtain ⟨rfl, rfl⟩ := trodVars_none hV
  have k0 := h0
  have lt0 : ∀ x ∈ p0, x.block < W.heap.size := by obtain ⟨m, hm⟩ := k0; exact DataW.trod_lt m _ _ _ hm
  obtain ⟨a0, n0, c0, l0, rfl, w0⟩ := open_gacts (hval 0 30 v0 rfl rfl) h0
  clear hA0 hval0
  refine (walk_GreyPlays a0 n0 c0 l0 w0 W).mono fun e W' ⟨he, hg⟩ => ?_
  subst he
  exact ⟨_, rfl, _, _, _, [], _, [], hW', trodAll_mk1 (shut_bool Try.underlying4 _), (trodAll_cons_mk (Below.trod laidOut (by kernel_rfl) (of_decide_eq_true (by kernel_rfl)) k0 hg lt0) trodAll_mk0), rfl, hg.frame _, fun h => by cases h⟩

/-- THE STATEMENT. -/
theorem said_GreyPlays : Rows.GreyPlaysSaid :=
  OpenClaim.holds_of_wide 4 Try.f4 rfl rfl rfl rfl rfl rfl rfl ⟨rfl, rfl, rfl, rfl, rfl⟩ rfl rfl rfl rfl rfl (by kernel_rfl) Try.func4 (by kernel_rfl)
    (of_decide_eq_true (by kernel_rfl)) (by unfold Func.isWrapper; first | (rw [if_pos (by decide +kernel)]; kernel_rfl) | (rw [if_neg (by decide +kernel)]; exact ⟨rfl, rfl⟩))
    (fun os started H enc _ => lifted_GreyPlays os started H enc)
#print axioms said_GreyPlays
end Go.Proofs.Ytacgfljhnlbbgaa
