/- The document's own: cases of gantlineref9. -/
import Derived.Test.YtpbeafgfhnlmbaaLiveFC
namespace Go.Proofs.Ytpbeafgfhnlmbaa
set_option maxRecDepth 100000
open Go.RowKit Go.Maps Go.ChangeShapes Go.WideShapes Go.ChangeAt Go.Deep

/-- Cases that are answered, and whether they are all there. -/
def CaTo2 (x : World) (l : List Ca) (e : Ending) (w' : World) : Prop := ∃ ao c q, e = .returned (.tuple #[.slice ao l.length c, .bool q]) ∧ RowAt elCa w' ao l.length c l ∧ G x w'
set_option maxHeartbeats 1000000 in
theorem rcases_any (w : World) (m : Md) (so : Option Addr) (sc : Nat) (go : Option Addr) (gc : Nat) (co : Option Addr) (cc : Nat) (ao : Option Addr) (ac : Nat) (fo : Option Addr) (fc : Nat) (h : ModR w m so sc go gc co cc ao ac fo fc) (i : In) (oa : oI i.a) (ob : oI i.b) :
    Calls Try.prog 35 #[agM m so sc go gc co cc ao ac fo fc, agI i] w (CaTo2 w (casesP m i.a i.b)) := by
  unfold agM agI
  obtain ⟨op, A, B, C, D⟩ := i
  have hmx := h.r4.2.1
  simp only at oa ob ⊢
  by_cases hbad : A < 0 ∨ B < 0 ∨ (m.ca.length : Int) - A < B
  · have K : Hid (∀ x, G w x → CaTo2 w (casesP m A B) (.returned (.tuple #[.slice none 0 0, .bool false])) x) := hide (fun x g => by
      unfold casesP
      rw [if_pos hbad]
      exact ⟨none, 0, false, rfl, RowAt.nil x, g⟩)
    unfold maxLen at hmx
    by_cases hB : B < 0
    · clear oa ob
      clear hbad h
      go_enter Try.func35, Try.ntmps35
      go_wp2_with fail
      refine bodyPost_ret (by simp [results, Try.results35, go_sem]; try rfl) rfl ?_
      exact unhide K _ ((G.alloc _ _).more _)
    · by_cases hB2 : (m.ca.length : Int) < B
      · clear oa ob
        clear hbad h
        go_enter Try.func35, Try.ntmps35
        go_wp2_with fail
        refine bodyPost_ret (by simp [results, Try.results35, go_sem]; try rfl) rfl ?_
        exact unhide K _ ((G.alloc _ _).more _)
      · have hB3 : B ≤ (m.ca.length : Int) := by omega
        have hs : wrap64 ((m.ca.length : Int) - B) = (m.ca.length : Int) - B := by unfold wrap64; omega
        by_cases hA : A < 0
        · clear oa ob
          clear hbad h
          go_enter Try.func35, Try.ntmps35
          go_wp2_with fail
          refine bodyPost_ret (by simp [results, Try.results35, go_sem]; try rfl) rfl ?_
          exact unhide K _ ((G.alloc _ _).more _)
        · have h3 : (m.ca.length : Int) - B < A := by omega
          clear oa ob
          clear hbad h
          go_enter Try.func35, Try.ntmps35
          go_wp2_with fail
          refine bodyPost_ret (by simp [results, Try.results35, go_sem]; try rfl) rfl ?_
          exact unhide K _ ((G.alloc _ _).more _)
  · obtain ⟨a, rfl⟩ : ∃ a : Nat, A = a := ⟨A.toNat, by omega⟩
    obtain ⟨d, rfl⟩ : ∃ d : Nat, B = d := ⟨B.toNat, by omega⟩
    have had : a + d ≤ m.ca.length := by omega
    have hcap := h.cap
    have hn : casesP m (a : Int) (d : Int) = (m.ca.drop a).take d := by
      unfold casesP
      rw [if_neg hbad, Int.toNat_natCast, Int.toNat_natCast]
    have hlen : ((m.ca.drop a).take d).length = d := by rw [List.length_take, List.length_drop]; omega
    have hA : ¬ (a : Int) < 0 := by omega
    have hB : ¬ (d : Int) < 0 := by omega
    unfold maxLen at hmx
    have hs : wrap64 ((m.ca.length : Int) - d) = (m.ca.length : Int) - d := by unfold wrap64; omega
    have hs2 : wrap64 ((a : Int) + d) = ((a + d : Nat) : Int) := by unfold wrap64; omega
    have h3 : ¬ (m.ca.length : Int) - d < a := by omega
    have h5 : ¬ (m.ca.length : Int) < d := by omega
    have h4 : (a : Int) + d ≤ ac := by omega
    cases ao with
    | none =>
      have hac : ac = 0 := h.r4.2.2.1 rfl
      obtain rfl : a = 0 := by omega
      obtain rfl : d = 0 := by omega
      subst hac
      have K : Hid (∀ x, G w x → CaTo2 w (casesP m (0 : Nat) (0 : Nat)) (.returned (.tuple #[.slice none 0 0, .bool true])) x) := hide (fun x g => by rw [hn]; exact ⟨none, 0, true, rfl, RowAt.nil x, g⟩)
      clear h hn hbad
      go_enter Try.func35, Try.ntmps35
      go_wp2_with fail
      refine bodyPost_ret (by simp [results, Try.results35, go_sem]; try rfl) rfl ?_
      exact unhide K _ ((G.alloc _ _).more _)
    | some ad =>
      have hspot : m.ca.length = 0 ∨ ∃ b off, ad = ⟨b, off, none⟩ := by
        rcases h.r4.2.2.2 with h0 | ⟨b, off, e, _⟩
        · exact Or.inl h0
        · cases e; exact Or.inr ⟨b, off, rfl⟩
      rcases hspot with hz | ⟨b, off, rfl⟩
      · obtain rfl : a = 0 := by omega
        obtain rfl : d = 0 := by omega
        have hnil : m.ca = [] := List.eq_nil_of_length_eq_zero hz
        have K : Hid (∀ x (a' : Addr) c, G w x → CaTo2 w (casesP m (0 : Nat) (0 : Nat)) (.returned (.tuple #[.slice (some a') 0 c, .bool true])) x) := hide (fun x a' c g => by rw [hn]; exact ⟨some a', c, true, rfl, ⟨rfl, Nat.zero_le _, (fun e => by cases e), Or.inl rfl⟩, g⟩)
        rw [hz] at h3 hs h5
        rw [hz]
        clear h hn hbad hlen hz hnil hmx had hcap
        go_enter Try.func35, Try.ntmps35
        go_wp2_with fail
        all_goals
          refine bodyPost_ret (by simp [results, Try.results35, go_sem]; try rfl) rfl ?_
          exact unhide K _ _ _ ((G.alloc _ _).more _)
      · have K : Hid (∀ x off' c, (d = 0 ∨ off' = off + a * 4) → G w x → CaTo2 w (casesP m (a : Int) (d : Int)) (.returned (.tuple #[.slice (some ⟨b, off', none⟩) d c, .bool true])) x) := hide (fun x off' c ho g => by
          rw [hn]
          refine ⟨some ⟨b, off', none⟩, c, true, by rw [hlen], ?_, g⟩
          rw [hlen]
          exact row_sub (h.r4.g okCa g) had off' ho)
        clear h hn hlen hbad
        go_enter Try.func35, Try.ntmps35
        go_wp2_with fail
        all_goals
          refine bodyPost_ret (by simp [results, Try.results35, go_sem]; try rfl) rfl ?_
          exact unhide K _ _ _ (by first | exact Or.inr rfl | exact Or.inl (by omega)) ((G.alloc _ _).more _)
end Go.Proofs.Ytpbeafgfhnlmbaa
