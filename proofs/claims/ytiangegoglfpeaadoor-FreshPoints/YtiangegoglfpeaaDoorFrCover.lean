/- Which nodes of the cases' tree a select has. -/
import Derived.Test.YtiangegoglfpeaaDoorFrCase
import Derived.Test.YtiangegoglfpeaaDoorLiveNw
namespace Go.Proofs.YtiangegoglfpeaaDoor
set_option maxRecDepth 100000
open Go.RowKit Go.Maps Go.ChangeShapes Go.WideShapes Go.ChangeAt Go.Deep

variable (w : World) (n : Nat) (ao : Option Addr) (ac : Nat) (sb : Option Addr) (s1 s2 : Nat) (rb : Option Addr) (r1 r2 : Nat)
theorem tdiv2 (x y : Nat) (h : x ≤ 3000000) (e : x / 2 = y) : wrap64 ((x : Int).tdiv 2) = (y : Int) := by
  subst e
  rw [Int.tdiv_eq_ediv_of_nonneg (by omega)]
  unfold wrap64
  omega
theorem tmod2 (x r : Nat) (e : x % 2 = r) : (x : Int) % 2 = (r : Int) ∧ (x : Int).tmod 2 = (r : Int) := by
  subst e
  refine ⟨by omega, ?_⟩
  rw [Int.tmod_eq_emod_of_nonneg (by omega)]
  omega
theorem wsucc (x : Nat) (h : x ≤ 3000000) : wrap64 ((x : Int) + 1) = ((x + 1 : Nat) : Int) := by unfold wrap64; omega
theorem wpred (x : Nat) (h : x ≤ 3000000) (h0 : 0 < x) : wrap64 ((x : Int) - 1) = ((x - 1 : Nat) : Int) := by unfold wrap64; omega
theorem cov_ar (lo hi f n : Nat) (hlt : lo < hi) (hf : hi < f + 1) (hb : hi ≤ 2000000) (hc : n + 2 * (f + 1) ≤ 10000000) : hi / 2 < f ∧ hi / 2 ≤ 2000000 ∧ hi / 2 < hi ∧ n + 2 * (f + 1) ≤ 10000000 := ⟨by omega, by omega, by omega, hc⟩
theorem cov_bd (lo hi : Nat) (h : lo < hi) (hb : hi ≤ 2000000) : lo ≤ 3000000 ∧ lo + 1 ≤ 3000000 ∧ hi ≤ 3000000 ∧ hi - 1 ≤ 3000000 ∧ 0 < hi ∧ (lo : Int) < (hi : Int) := by omega
theorem cov_ev (lo : Nat) (h : lo % 2 = 0) : lo / 2 = (lo + 1) / 2 := by omega
theorem cov_od (hi : Nat) (h : hi % 2 = 1) : (hi - 1) / 2 = hi / 2 := by omega
theorem cov_00 (f lo hi : Nat) (acc : List Int) (h : lo < hi) (h1 : lo % 2 = 0) (h2 : hi % 2 = 0) : covL f ((lo + 1) / 2) (hi / 2) acc = covL (f + 1) lo hi acc := by
  conv => rhs; unfold covL
  rw [if_pos h, if_neg (by omega), if_neg (by omega), List.append_nil]
theorem cov_01 (f lo hi : Nat) (acc : List Int) (h : lo < hi) (h1 : lo % 2 = 0) (h2 : hi % 2 = 1) : covL f ((lo + 1) / 2) (hi / 2) (acc ++ [((hi - 1 : Nat) : Int)]) = covL (f + 1) lo hi acc := by
  conv => rhs; unfold covL
  rw [if_pos h, if_neg (by omega), if_pos h2]
theorem cov_10 (f lo hi : Nat) (acc : List Int) (h : lo < hi) (h1 : lo % 2 = 1) (h2 : hi % 2 = 0) : covL f ((lo + 1) / 2) (hi / 2) (acc ++ [(lo : Int)]) = covL (f + 1) lo hi acc := by
  conv => rhs; unfold covL
  rw [if_pos h, if_pos h1, if_neg (by omega), List.append_nil]
theorem cov_11 (f lo hi : Nat) (acc : List Int) (h : lo < hi) (h1 : lo % 2 = 1) (h2 : hi % 2 = 1) : covL f ((lo + 1) / 2) (hi / 2) ((acc ++ [(lo : Int)]) ++ [((hi - 1 : Nat) : Int)]) = covL (f + 1) lo hi acc := by
  conv => rhs; unfold covL
  rw [if_pos h, if_pos h1, if_pos h2]
theorem len_app (n m f : Nat) (h : n + 2 * (f + 1) ≤ 10000000) (hm : m ≤ n + 2) : m + 2 * f ≤ 10000000 := by omega
theorem len_lt (n m f : Nat) (h : n + 2 * (f + 1) ≤ 10000000) (hm : m ≤ n + 1) : m < 10000000 := by omega
theorem dec_hi (hi hi' : Nat) (x : Int) (hx : x = (hi' : Int)) (h : hi' < hi) : (intOf (.int .i64 x)).toNat < (intOf (.int .i64 (hi : Int))).toNat := by
  subst hx
  simp [intOf]
  exact h
theorem ediv2 (x y : Nat) (h : x ≤ 3000000) (e : x / 2 = y) : wrap64 ((x : Int) / 2) = (y : Int) := by
  subst e
  unfold wrap64
  omega
set_option maxHeartbeats 1000000 in
theorem cover_any (i : In) (oa : oI i.a) (ob : oI i.b) (hn : n ≤ 1000000) : Calls Tryd.prog 52 #[agT n ao ac sb s1 s2 rb r1 r2, agI i] w (FTo w (covP n i.a i.b)) := by
  obtain ⟨op, A, B, C, D⟩ := i
  simp only at oa ob ⊢
  unfold agT agI
  simp only
  by_cases hbad : A < 0 ∨ B < 0 ∨ (n : Int) - A < B
  · have e : covP n A B = [] := by unfold covP; rw [if_pos hbad]
    rw [e]
    have K : Hid (∀ x, G w x → FTo w [] (.returned (.slice none 0 0)) x) := hide fun x g => ⟨_, rfl, nwl_nil _ x, g⟩
    clear e
    have hw : A < 0 ∨ wrap64 ((n : Int) - A) = (n : Int) - A := by
      by_cases h : A < 0
      · exact Or.inl h
      · right; unfold wrap64; unfold oI at oa; omega
    go_enter Tryd.func52, Tryd.ntmps52
    by_cases h1 : A < 0
    · have d1 : decide (A < 0) = true := decide_eq_true h1
      clear hbad hw
      go_wp2_with fail
      refine bodyPost_ret (by simp [results, Tryd.results52, go_sem]; try rfl) rfl ?_
      exact unhide K _ (((G.refl w).more _).more _)
    · have d1 : decide (A < 0) = false := decide_eq_false h1
      by_cases h2 : B < 0
      · have d2 : decide (B < 0) = true := decide_eq_true h2
        clear hbad hw
        go_wp2_with fail
        refine bodyPost_ret (by simp [results, Tryd.results52, go_sem]; try rfl) rfl ?_
        exact unhide K _ (((G.refl w).more _).more _)
      · have d2 : decide (B < 0) = false := decide_eq_false h2
        have h3 : (n : Int) - A < B := by omega
        have d3 : decide ((n : Int) - A < B) = true := decide_eq_true h3
        have hw : wrap64 ((n : Int) - A) = (n : Int) - A := by omega
        clear hbad
        go_wp2_with fail
        refine bodyPost_ret (by simp [results, Tryd.results52, go_sem]; try rfl) rfl ?_
        exact unhide K _ (((G.refl w).more _).more _)
  · obtain ⟨a, rfl⟩ : ∃ a : Nat, A = a := ⟨A.toNat, by omega⟩
    obtain ⟨b, rfl⟩ : ∃ b : Nat, B = b := ⟨B.toNat, by omega⟩
    have e : covP n (a : Int) (b : Int) = covL (2 * n + 1) (n + a) (n + a + b) [] := by unfold covP; rw [if_neg hbad]; simp
    rw [e]
    have hab : a + b ≤ n := by omega
    have d1 : decide ((a : Int) < 0) = false := decide_eq_false (by omega)
    have d2 : decide ((b : Int) < 0) = false := decide_eq_false (by omega)
    have h3 : ¬ (n : Int) - (a : Int) < (b : Int) := by omega
    have d3 : decide ((n : Int) - (a : Int) < (b : Int)) = false := decide_eq_false h3
    have w1 : wrap64 ((n : Int) - (a : Int)) = (n : Int) - (a : Int) := by unfold wrap64; omega
    have w2 : wrap64 ((n : Int) + (a : Int)) = ((n + a : Nat) : Int) := by unfold wrap64; omega
    have w3 : wrap64 (((n + a : Nat) : Int) + (b : Int)) = ((n + a + b : Nat) : Int) := by unfold wrap64; omega
    obtain ⟨R, hR⟩ : ∃ R, covL (2 * n + 1) (n + a) (n + a + b) [] = R := ⟨_, rfl⟩
    rw [hR]
    have ST : Hid (n + a + b < 2 * n + 1 ∧ n + a + b ≤ 2000000 ∧ covL (2 * n + 1) (n + a) (n + a + b) [] = R) := hide ⟨by omega, by omega, hR⟩
    obtain ⟨lo, hlo⟩ : ∃ lo, lo = n + a := ⟨_, rfl⟩
    obtain ⟨hi, hhi⟩ : ∃ hi, hi = n + a + b := ⟨_, rfl⟩
    obtain ⟨fu, hfu⟩ : ∃ fu, fu = 2 * n + 1 := ⟨_, rfl⟩
    rw [← hhi, ← hlo] at w3
    rw [← hlo] at w2
    rw [← hhi, ← hlo, ← hfu] at ST
    have SB : Hid (([] : List Int).length + 2 * fu ≤ 10000000) := hide (by simp; omega)
    have GW : Hid (∀ q, G w (((w.alloc (.cells #[.slice ao n ac, .slice sb s1 s2, .slice rb r1 r2] 96)).alloc (.cells #[.int .i64 op, .int .i64 (a : Int), .int .i64 (b : Int), .int .i64 C, .int .i64 D] 37)).drewN q)) := hide fun q => (((G.refl w).more _).more _).trans (G.drewN _ q)
    clear hbad e hR hab hlo hhi hfu oa ob hn
    go_enter Tryd.func52, Tryd.ntmps52
    go_wp2_with fail
    go_quiet (fail)
    go_wp2_with fail
    go_loopw [6, 7, 8] (fun v6 v7 v8 wr => ∃ (f lo hi : Nat) (acc : List Int), v7 = .int .i64 lo ∧ v8 = .int .i64 hi ∧ Hid (OwnL wr w.heap.size v6 acc ∧ G w wr ∧ hi < f ∧ hi ≤ 2000000 ∧ acc.length + 2 * f ≤ 10000000 ∧ covL f lo hi acc = R)) (fun _ _ v8 _ => (intOf v8).toNat)
    case atStart => exact ⟨fu, lo, hi, [], by rw [w2], by rw [w3], hide ⟨ownl_nil _ _, unhide GW _, (unhide ST).1, (unhide ST).2.1, unhide SB, (unhide ST).2.2⟩⟩
    case round =>
      obtain ⟨f, lo, hi, acc, rfl, rfl, HW⟩ := hrel
      clear ST w2 w3 w1 d1 d2 d3 h3 SB GW
      obtain ⟨hown, hg, hf, hb, hc, hR⟩ := unhide HW
      by_cases hlt : lo < hi
      · obtain ⟨f, rfl⟩ : ∃ f', f = f' + 1 := ⟨f - 1, by omega⟩
        rcases Nat.mod_two_eq_zero_or_one lo with hl0 | hl0
        · rcases Nat.mod_two_eq_zero_or_one hi with hh0 | hh0
          · obtain ⟨hlI, hlT⟩ := tmod2 lo 0 hl0
            obtain ⟨hhI, hhT⟩ := tmod2 hi 0 hh0
            have NX : Hid (covL f ((lo + 1) / 2) (hi / 2) (acc) = R) := hide ((cov_00 f lo hi acc hlt hl0 hh0).trans hR)
            obtain ⟨b1, b2, b3, b4, b5, hltI⟩ := cov_bd lo hi hlt hb
            have wl := wsucc lo b1
            have wh := wpred hi b3 b5
            have dl := tdiv2 lo ((lo + 1) / 2) b1 (cov_ev lo hl0)
            have dl2 := ediv2 lo ((lo + 1) / 2) b1 (cov_ev lo hl0)
            have dh := tdiv2 hi (hi / 2) b3 rfl
            have dh2 := ediv2 hi (hi / 2) b3 rfl
            have ML : Hid (hi / 2 < f ∧ hi / 2 ≤ 2000000 ∧ hi / 2 < hi ∧ acc.length + 2 * (f + 1) ≤ 10000000) := hide (cov_ar lo hi f acc.length hlt hf hb hc)
            obtain ⟨lo', hlo'⟩ : ∃ lo', lo' = (lo + 1) / 2 := ⟨_, rfl⟩
            obtain ⟨hi', hhi'⟩ : ∃ hi', hi' = hi / 2 := ⟨_, rfl⟩
            rw [← hlo'] at dl dl2 NX
            rw [← hhi'] at dh dh2 NX ML
            replace dl2 := hide dl2
            replace dh2 := hide dh2
            replace hown := hide hown
            replace hg := hide hg
            clear HW hR hlo' hhi' hf hb hc hl0 hh0 b1 b2 b3 b4 b5
            replace hlt := hide hlt
            have HP : Hid (OwnL wr w.heap.size u6 acc ∧ G w wr) := hide ⟨unhide hown, unhide hg⟩
            go_wp2_with fail
            go_roundw
            case rel => exact ⟨f, lo', hi', _, by rw [unhide dl2], by rw [unhide dh2], hide ⟨(unhide HP).1, (unhide HP).2, (unhide ML).1, (unhide ML).2.1, len_app _ _ f (unhide ML).2.2.2 (by simp), unhide NX⟩⟩
            case measure =>
              exact dec_hi hi hi' _ (unhide dh2) (unhide ML).2.2.1
          · obtain ⟨hlI, hlT⟩ := tmod2 lo 0 hl0
            obtain ⟨hhI, hhT⟩ := tmod2 hi 1 hh0
            have NX : Hid (covL f ((lo + 1) / 2) (hi / 2) ((acc) ++ [((hi - 1 : Nat) : Int)]) = R) := hide ((cov_01 f lo hi acc hlt hl0 hh0).trans hR)
            obtain ⟨b1, b2, b3, b4, b5, hltI⟩ := cov_bd lo hi hlt hb
            have wl := wsucc lo b1
            have wh := wpred hi b3 b5
            have dl := tdiv2 lo ((lo + 1) / 2) b1 (cov_ev lo hl0)
            have dl2 := ediv2 lo ((lo + 1) / 2) b1 (cov_ev lo hl0)
            have dh := tdiv2 (hi - 1) (hi / 2) b4 (cov_od hi hh0)
            have dh2 := ediv2 (hi - 1) (hi / 2) b4 (cov_od hi hh0)
            have ML : Hid (hi / 2 < f ∧ hi / 2 ≤ 2000000 ∧ hi / 2 < hi ∧ acc.length + 2 * (f + 1) ≤ 10000000) := hide (cov_ar lo hi f acc.length hlt hf hb hc)
            obtain ⟨lo', hlo'⟩ : ∃ lo', lo' = (lo + 1) / 2 := ⟨_, rfl⟩
            obtain ⟨hi', hhi'⟩ : ∃ hi', hi' = hi / 2 := ⟨_, rfl⟩
            rw [← hlo'] at dl dl2 NX
            rw [← hhi'] at dh dh2 NX ML
            obtain ⟨hm, hhm⟩ : ∃ hm, hm = hi - 1 := ⟨_, rfl⟩
            rw [← hhm] at wh dh dh2 NX
            clear hhm
            replace dl2 := hide dl2
            replace dh2 := hide dh2
            replace hown := hide hown
            replace hg := hide hg
            clear HW hR hlo' hhi' hf hb hc hl0 hh0 b1 b2 b3 b4 b5
            replace hlt := hide hlt
            obtain ⟨v2, w2, hrun, r2, r3⟩ := own_app1 ((hm : Nat) : Int) (unhide hown) (unhide hg).size (len_lt _ _ f (unhide ML).2.2.2 (Nat.le_add_right _ 1))
            have HP : Hid (OwnL w2 w.heap.size v2 (acc ++ [(hm : Int)]) ∧ G w w2) := hide ⟨r2, below_g (unhide hg) r3⟩
            clear r2 r3
            go_wp2_with (at_builtin; refine wpl_run rfl (.tmp 61) (.tmp 63) 100 rfl _ _ rfl rfl _ _ hrun ?_; clear hrun)
            go_roundw
            case rel => exact ⟨f, lo', hi', _, by rw [unhide dl2], by rw [unhide dh2], hide ⟨(unhide HP).1, (unhide HP).2, (unhide ML).1, (unhide ML).2.1, len_app _ _ f (unhide ML).2.2.2 (by simp), unhide NX⟩⟩
            case measure =>
              exact dec_hi hi hi' _ (unhide dh2) (unhide ML).2.2.1
        · rcases Nat.mod_two_eq_zero_or_one hi with hh0 | hh0
          · obtain ⟨hlI, hlT⟩ := tmod2 lo 1 hl0
            obtain ⟨hhI, hhT⟩ := tmod2 hi 0 hh0
            have NX : Hid (covL f ((lo + 1) / 2) (hi / 2) (acc ++ [(lo : Int)]) = R) := hide ((cov_10 f lo hi acc hlt hl0 hh0).trans hR)
            obtain ⟨b1, b2, b3, b4, b5, hltI⟩ := cov_bd lo hi hlt hb
            have wl := wsucc lo b1
            have wh := wpred hi b3 b5
            have dl := tdiv2 (lo + 1) ((lo + 1) / 2) b2 rfl
            have dl2 := ediv2 (lo + 1) ((lo + 1) / 2) b2 rfl
            have dh := tdiv2 hi (hi / 2) b3 rfl
            have dh2 := ediv2 hi (hi / 2) b3 rfl
            have ML : Hid (hi / 2 < f ∧ hi / 2 ≤ 2000000 ∧ hi / 2 < hi ∧ acc.length + 2 * (f + 1) ≤ 10000000) := hide (cov_ar lo hi f acc.length hlt hf hb hc)
            have AP : Hid (∃ v' w', (Builtin.append_ #[100, 100] 100 #[u6, .slice (some ⟨wr.heap.size, 0, none⟩) 1 1]).run Tryd.prog (wr.alloc (.cells #[.int .i64 (lo : Int)] 3)) = .ok v' w' ∧ OwnL w' w.heap.size v' (acc ++ [(lo : Int)]) ∧ G w w') := hide (by
              obtain ⟨v', w', r1, r2, r3⟩ := own_app1 (lo : Int) hown hg.size (len_lt _ _ f hc (Nat.le_add_right _ 1))
              exact ⟨v', w', r1, r2, below_g hg r3⟩)
            obtain ⟨lo', hlo'⟩ : ∃ lo', lo' = (lo + 1) / 2 := ⟨_, rfl⟩
            obtain ⟨hi', hhi'⟩ : ∃ hi', hi' = hi / 2 := ⟨_, rfl⟩
            rw [← hlo'] at dl dl2 NX
            rw [← hhi'] at dh dh2 NX ML
            obtain ⟨lp, hlp⟩ : ∃ lp, lp = lo + 1 := ⟨_, rfl⟩
            rw [← hlp] at wl dl dl2
            clear hlp
            replace dl2 := hide dl2
            replace dh2 := hide dh2
            replace hown := hide hown
            replace hg := hide hg
            clear HW hR hlo' hhi' hf hb hc hl0 hh0 b1 b2 b3 b4 b5
            replace hlt := hide hlt
            go_wp2_with (at_builtin; obtain ⟨v', w', hrun, HO⟩ := unhide AP; replace HO := hide HO; refine wpl_run rfl (.tmp 50) (.tmp 52) 100 rfl _ _ rfl rfl _ _ hrun ?_; clear hrun AP)
            go_roundw
            case rel => exact ⟨f, lo', hi', _, by rw [unhide dl2], by rw [unhide dh2], hide ⟨(unhide HO).1, (unhide HO).2, (unhide ML).1, (unhide ML).2.1, len_app _ _ f (unhide ML).2.2.2 (by simp), unhide NX⟩⟩
            case measure =>
              exact dec_hi hi hi' _ (unhide dh2) (unhide ML).2.2.1
          · obtain ⟨hlI, hlT⟩ := tmod2 lo 1 hl0
            obtain ⟨hhI, hhT⟩ := tmod2 hi 1 hh0
            have NX : Hid (covL f ((lo + 1) / 2) (hi / 2) ((acc ++ [(lo : Int)]) ++ [((hi - 1 : Nat) : Int)]) = R) := hide ((cov_11 f lo hi acc hlt hl0 hh0).trans hR)
            obtain ⟨b1, b2, b3, b4, b5, hltI⟩ := cov_bd lo hi hlt hb
            have wl := wsucc lo b1
            have wh := wpred hi b3 b5
            have dl := tdiv2 (lo + 1) ((lo + 1) / 2) b2 rfl
            have dl2 := ediv2 (lo + 1) ((lo + 1) / 2) b2 rfl
            have dh := tdiv2 (hi - 1) (hi / 2) b4 (cov_od hi hh0)
            have dh2 := ediv2 (hi - 1) (hi / 2) b4 (cov_od hi hh0)
            have ML : Hid (hi / 2 < f ∧ hi / 2 ≤ 2000000 ∧ hi / 2 < hi ∧ acc.length + 2 * (f + 1) ≤ 10000000) := hide (cov_ar lo hi f acc.length hlt hf hb hc)
            have AP : Hid (∃ v' w', (Builtin.append_ #[100, 100] 100 #[u6, .slice (some ⟨wr.heap.size, 0, none⟩) 1 1]).run Tryd.prog (wr.alloc (.cells #[.int .i64 (lo : Int)] 3)) = .ok v' w' ∧ OwnL w' w.heap.size v' (acc ++ [(lo : Int)]) ∧ G w w') := hide (by
              obtain ⟨v', w', r1, r2, r3⟩ := own_app1 (lo : Int) hown hg.size (len_lt _ _ f hc (Nat.le_add_right _ 1))
              exact ⟨v', w', r1, r2, below_g hg r3⟩)
            obtain ⟨lo', hlo'⟩ : ∃ lo', lo' = (lo + 1) / 2 := ⟨_, rfl⟩
            obtain ⟨hi', hhi'⟩ : ∃ hi', hi' = hi / 2 := ⟨_, rfl⟩
            rw [← hlo'] at dl dl2 NX
            rw [← hhi'] at dh dh2 NX ML
            obtain ⟨lp, hlp⟩ : ∃ lp, lp = lo + 1 := ⟨_, rfl⟩
            rw [← hlp] at wl dl dl2
            clear hlp
            obtain ⟨hm, hhm⟩ : ∃ hm, hm = hi - 1 := ⟨_, rfl⟩
            rw [← hhm] at wh dh dh2 NX
            clear hhm
            replace dl2 := hide dl2
            replace dh2 := hide dh2
            replace hown := hide hown
            replace hg := hide hg
            clear HW hR hlo' hhi' hf hb hc hl0 hh0 b1 b2 b3 b4 b5
            replace hlt := hide hlt
            go_upto_region 11 with (at_builtin; obtain ⟨v', w', hrun, HO⟩ := unhide AP; replace HO := hide HO; refine wpl_run rfl (.tmp 50) (.tmp 52) 100 rfl _ _ rfl rfl _ _ hrun ?_; clear hrun AP)
            obtain ⟨v2, w2, hrun, r2, r3⟩ := own_app1 ((hm : Nat) : Int) (unhide HO).1 (unhide HO).2.size (len_lt _ _ f (unhide ML).2.2.2 (by simp))
            have HP : Hid (OwnL w2 w.heap.size v2 ((acc ++ [(lo : Int)]) ++ [(hm : Int)]) ∧ G w w2) := hide ⟨r2, below_g (unhide HO).2 r3⟩
            clear r2 r3 HO
            go_wp2_with (at_builtin; refine wpl_run rfl (.tmp 61) (.tmp 63) 100 rfl _ _ rfl rfl _ _ hrun ?_; clear hrun)
            go_roundw
            case rel => exact ⟨f, lo', hi', _, by rw [unhide dl2], by rw [unhide dh2], hide ⟨(unhide HP).1, (unhide HP).2, (unhide ML).1, (unhide ML).2.1, len_app _ _ f (unhide ML).2.2.2 (by simp), unhide NX⟩⟩
            case measure =>
              exact dec_hi hi hi' _ (unhide dh2) (unhide ML).2.2.1
      · have K : Hid (FTo w R (.returned u6) wr) := hide (by
          have e : acc = R := by
            rw [← hR]
            cases f with
            | zero => rfl
            | succ f => unfold covL; rw [if_neg hlt]
          rw [← e]
          exact ⟨_, rfl, ⟨hown.isl, fun a n c e => own_blk hown _ (by rw [e]; rfl)⟩, hg⟩)
        have hltI : ¬ (lo : Int) < (hi : Int) := by omega
        clear HW hown hg hf hb hc hR
        go_wp2_with fail
        refine bodyPost_ret (by simp [results, Tryd.results52, go_sem]; try rfl) rfl ?_
        exact unhide K
end Go.Proofs.YtiangegoglfpeaaDoor
