/- lex.Cut: just the words that the plain cut tells. -/
import Derived.Test.YtablincnlfbjnabDoorLexRow
namespace Go.Proofs.YtablincnlfbjnabDoor
set_option maxRecDepth 100000
open Go.RowKit Go.Maps Go.ChangeShapes Go.WideShapes Go.ChangeAt Go.Deep

def CutTo (w : World) (R : List Wd × Option Nat) (e : Ending) (w' : World) : Prop :=
  G w w' ∧ ((∃ o : Nat, R.2 = some o ∧ e = .returned (.tuple #[.slice none 0 0, .int .i64 (o : Int), .int .i64 6])) ∨
    (R.2 = none ∧ ∃ v, e = .returned (.tuple #[v, .int .i64 0, .int .i64 0]) ∧ OwW 45 w' w.heap.size v R.1))

/-- What is known at the loop's head. -/
def CutR (w : World) (L : List UInt8) (R : List Wd × Option Nat) (k : Nat) (v : Value) (wr : World) : Prop :=
  ∃ ws, OwW 45 wr w.heap.size v ws ∧ R = (ws ++ (cutL (L.drop k) k).1, (cutL (L.drop k) k).2) ∧ G w wr ∧ ws.length ≤ k ∧ gap (L.drop k) = 0

set_option maxHeartbeats 2000000 in
theorem lexcut_any (s : ByteArray) (w : World) (hs : s.size ≤ 16384) (hE : EvAt w) : Calls Tryd.prog 8 #[.string s] w (CutTo w (cutL s.data.toList 0)) := by
  have hl : s.data.toList.length = s.size := (Lib.size_eq s).symm
  have hes : ∀ k, (s.extract k s.size).data.toList = s.data.toList.drop k := ext_drop s
  have hez : ∀ k, (s.extract k s.size).size = s.size - k := ext_size s
  have BT0 := hide (between_any s w (by omega))
  have BT : Hid (∀ (k : Nat) (w : World), Calls Tryd.prog 10 #[.string (s.extract k s.size)] w fun e w' => e = .returned (.int .i64 (gap (s.data.toList.drop k) : Nat)) ∧ w' = w) := hide fun k w => by
    have := between_any (s.extract k s.size) w (by rw [hez]; omega)
    rwa [hes] at this
  have FI : Hid (∀ (k : Nat) (wr : World), k < s.size → G w wr → Calls Tryd.prog 11 #[.string (s.extract k s.size)] wr fun e w' => e = .returned (.tuple #[.int .i64 ((firstW (s.data.toList.drop k)).1 : Nat), .int .i64 ((firstW (s.data.toList.drop k)).2 : Nat)]) ∧ G wr w') := hide fun k wr hk g => by
    have := first_any (s.extract k s.size) wr (by rw [hez]; omega) (by rw [hez]; omega) (hE.g g)
    rwa [hes] at this
  have CL : Hid (∀ (a b : Nat) (wr : World), Calls Tryd.prog 12 #[.string (s.extract a b)] wr fun e w' => e = .returned (.string (s.extract a b)) ∧ G wr w') := hide fun a b wr => clone_any _ wr (by rw [ByteArray.size_extract]; omega)
  have AP : Hid (∀ (wr : World) (v : Value) (ws : List Wd) (k n o : Nat), OwW 45 wr w.heap.size v ws → ws.length ≤ o → o ≤ s.size → G w wr → ∃ v' w', (Builtin.append_ #[34, 34] 34 #[v, .slice (some ⟨wr.heap.size, 0, none⟩) 1 1]).run Tryd.prog (wr.alloc (.cells #[.int .i64 (k : Int), .string (s.extract o (o + n)), .int .i64 (o : Int)] 45)) = .ok v' w' ∧ OwW 45 w' w.heap.size v' (ws ++ [⟨k, (s.data.toList.drop o).take n, o⟩]) ∧ G w w') := hide fun wr v ws k n o h h1 h2 g => by
    obtain ⟨i, hi, hz, hsz, hby⟩ := info_parts info_word
    obtain ⟨v', w', r1, r2, r3⟩ := own_word Tryd.underlying34 hi hz hsz hby h g.size (by omega) k o (s.extract o (o + n)) ((s.data.toList.drop o).take n) (by rw [Lib.extract_eq, show o + n - o = n by omega])
    exact ⟨v', w', r1, r2, Below.trans g r3⟩
  have AE : Hid (∀ (wr : World) (v : Value) (ws : List Wd) (o : Nat), OwW 45 wr w.heap.size v ws → ws.length ≤ o → o ≤ s.size → G w wr → ∃ v' w', (Builtin.append_ #[34, 34] 34 #[v, .slice (some ⟨wr.heap.size, 0, none⟩) 1 1]).run Tryd.prog (wr.alloc (.cells #[.int .i64 0, .string ⟨#[]⟩, .int .i64 (o : Int)] 45)) = .ok v' w' ∧ OwW 45 w' w.heap.size v' (ws ++ [⟨0, [], o⟩]) ∧ G w w') := hide fun wr v ws o h h1 h2 g => by
    obtain ⟨i, hi, hz, hsz, hby⟩ := info_parts info_word
    obtain ⟨v', w', r1, r2, r3⟩ := own_word Tryd.underlying34 hi hz hsz hby h g.size (by omega) 0 o ⟨#[]⟩ [] rfl
    exact ⟨v', w', r1, r2, Below.trans g r3⟩
  obtain ⟨R, hR⟩ : ∃ R, R = cutL s.data.toList 0 := ⟨_, rfl⟩
  have hg0 := gap_le s.data.toList
  have ST : Hid (CutR w s.data.toList R (gap s.data.toList) (.slice none 0 0) w) := hide (by
    refine ⟨[], OwW.nil _ _ _, ?_, G.refl w, Nat.zero_le _, gap_idem _⟩
    have hgg : gap s.data.toList = gap (s.data.toList.drop (gap s.data.toList)) + gap s.data.toList := by rw [gap_idem, Nat.zero_add]
    rw [hR, cutL_gap hg0 hgg, Nat.zero_add, List.nil_append])
  rw [← hR]
  rw [hl] at hg0
  obtain ⟨g0, hgg0⟩ : ∃ g0, g0 = gap s.data.toList := ⟨_, rfl⟩
  rw [← hgg0] at BT0 ST hg0
  have hn0 : ¬ (16384 : Int) < (s.size : Int) := by omega
  replace hl := hide hl
  clear hgg0 hE hes hez hR
  go_enter Tryd.func8, Tryd.ntmps8
  go_wp2_with fail
  refine (unhide BT0).mono ?_
  rintro e w' ⟨rfl, rfl⟩
  go_wp2_with fail
  go_loopw [5, 6, 7, 8] (fun v i _ _ wr => ∃ k : Nat, k ≤ s.size ∧ i = .int .i64 (k : Int) ∧ Hid (CutR w' s.data.toList R k v wr)) (fun _ i _ _ _ => s.size - (intOf i).toNat)
  case atStart => exact ⟨g0, hg0, rfl, ST⟩
  case round =>
    obtain ⟨k, hk, rfl, HW⟩ := hrel
    obtain ⟨ws, hws, hRR, hg, hwl, hgap⟩ := unhide HW
    clear HW ST BT0
    by_cases hlt : k < s.size
    · have C1 := hide (unhide FI k wr hlt hg)
      have hfl := firstW_le (s.data.toList.drop k)
      rw [List.length_drop, unhide hl] at hfl
      have hgl : gap (s.data.toList.drop k) < (s.data.toList.drop k).length := by rw [List.length_drop, unhide hl]; omega
      by_cases hz : (firstW (s.data.toList.drop k)).2 = 0
      · have hbad := cutL_bad (o := k) hgl (by rw [hgap, List.drop_zero]; exact hz)
        rw [hgap, Nat.add_zero] at hbad
        have HEND : Hid (∀ w2, G wr w2 → CutTo w' R (.returned (.tuple #[.slice none 0 0, .int .i64 (k : Int), .int .i64 6])) w2) := hide fun w2 g2 => ⟨G.trans hg g2, Or.inl ⟨k, by rw [hRR, hbad], rfl⟩⟩
        rw [hz] at C1
        generalize (firstW (s.data.toList.drop k)).1 = kd at C1
        clear hws hRR hg hwl hgap hfl hgl hz hbad FI BT CL AP AE hl
        go_wp2_with fail
        refine (unhide C1).mono ?_
        rintro e w2 ⟨rfl, hg2⟩
        replace hg2 := hide hg2
        clear C1
        go_wp2_with fail
        refine bodyPost_ret (by simp [results, Tryd.results8, go_sem]; try rfl) rfl ?_
        exact unhide HEND w2 (unhide hg2)
      · have hwd := cutL_word (o := k) hgl (by rw [hgap, List.drop_zero]; exact hz)
        rw [hgap, Nat.add_zero, List.drop_zero, List.drop_drop] at hwd
        obtain ⟨kd, hkd⟩ : ∃ kd, kd = (firstW (s.data.toList.drop k)).1 := ⟨_, rfl⟩
        obtain ⟨n, hn⟩ : ∃ n, n = (firstW (s.data.toList.drop k)).2 := ⟨_, rfl⟩
        rw [← hkd, ← hn] at C1
        rw [← hkd, ← hn] at hwd
        rw [← hn] at hfl hz
        have hkn : k + n ≤ s.size := by omega
        have C2 := unhide CL k (k + n)
        have C4 := unhide BT (k + n)
        have hgl2 := gap_le (s.data.toList.drop (k + n))
        rw [List.length_drop, unhide hl] at hgl2
        obtain ⟨m, hm⟩ : ∃ m, m = gap (s.data.toList.drop (k + n)) := ⟨_, rfl⟩
        rw [← hm] at C4 hgl2
        have hknm : k + n + m ≤ s.size := by omega
        have hcut2 : cutL (s.data.toList.drop (k + n)) (k + n) = cutL (s.data.toList.drop (k + n + m)) (k + n + m) := by
          have h1 : gap (s.data.toList.drop (k + n)) = gap ((s.data.toList.drop (k + n)).drop m) + m := by
            rw [hm, gap_idem, Nat.zero_add]
          rw [cutL_gap (by rw [List.length_drop, unhide hl]; exact hgl2) h1, List.drop_drop]
        have hgap2 : gap (s.data.toList.drop (k + n + m)) = 0 := by rw [← List.drop_drop, hm]; exact gap_idem _
        have PA : Hid (∀ w2 w3, G wr w2 → G w2 w3 → ∃ v' w4, (Builtin.append_ #[34, 34] 34 #[u5, .slice (some ⟨w3.heap.size, 0, none⟩) 1 1]).run Tryd.prog (w3.alloc (.cells #[.int .i64 (kd : Int), .string (s.extract k (k + n)), .int .i64 (k : Int)] 45)) = .ok v' w4 ∧ Hid (CutR w' s.data.toList R (k + n + m) v' w4)) := hide fun w2 w3 g2 g3 => by
          obtain ⟨v', w4, r1, r2, r3⟩ := unhide AP w3 u5 ws kd n k (hws.g (G.trans g2 g3)) hwl hk (G.trans (G.trans hg g2) g3)
          refine ⟨v', w4, r1, hide ⟨_, r2, ?_, r3, ?_, hgap2⟩⟩
          · rw [hRR, hwd, hcut2, List.append_assoc]
            rfl
          · rw [List.length_append]
            simp only [List.length_cons, List.length_nil]
            omega
        have HM := hide (show (k : Int) < (k : Int) + (n : Int) + (m : Int) ∧ (k : Int) + (n : Int) + (m : Int) ≤ (s.size : Int) by omega)
        have hn0' : ¬ (n : Int) = 0 := by omega
        replace C2 := hide C2
        replace C4 := hide C4
        clear hws hRR hg hwl hgap hfl hgl hz hwd FI BT CL AP AE hl hkd hn hm hgl2 hcut2 hgap2
        go_wp2_with fail
        refine (unhide C1).mono ?_
        rintro e w2 ⟨rfl, hg2⟩
        replace hg2 := hide hg2
        clear C1
        go_wp2_with fail
        refine (unhide C2 w2).mono ?_
        rintro e w3 ⟨rfl, hg3⟩
        obtain ⟨v', w4, hrun, HN⟩ := unhide PA w2 w3 (unhide hg2) hg3
        clear hg2 hg3 PA C2
        go_wp2_with (at_builtin; refine wpl_run rfl (.tmp 28) (.tmp 39) 34 rfl _ _ rfl rfl _ _ hrun ?_; clear hrun)
        refine (unhide C4 w4).mono ?_
        rintro e w5 ⟨rfl, rfl⟩
        clear C4
        go_wp2_with fail
        go_roundw
        case rel => exact ⟨k + n + m, by omega, by first | rfl | go_num, HN⟩
        case measure => exact dec_m (unhide HM).1 (unhide HM).2
    · obtain rfl : k = s.size := by omega
      have hend := cutL_end (l := s.data.toList.drop s.size) (o := s.size) (by rw [hgap, List.length_drop, unhide hl, Nat.sub_self])
      rw [List.length_drop, unhide hl, Nat.sub_self, Nat.add_zero] at hend
      have PE := unhide AE wr u5 ws s.size hws hwl (Nat.le_refl _) hg
      obtain ⟨v', w4, hrun, r2, r3⟩ := PE
      have HEND : Hid (CutTo w' R (.returned (.tuple #[v', .int .i64 0, .int .i64 0])) w4) := hide ⟨r3, Or.inr ⟨by rw [hRR, hend], v', rfl, by rw [hRR, hend]; exact r2⟩⟩
      have h1 : ¬ (s.size : Int) < (s.size : Int) := by omega
      clear hws hRR hg hwl hgap hend FI BT CL AP AE hl r2 r3 hlt
      go_wp2_with (at_builtin; refine wpl_run rfl (.tmp 50) (.tmp 53) 34 rfl _ _ rfl rfl _ _ hrun ?_; clear hrun)
      refine bodyPost_ret (by simp [results, Tryd.results8, go_sem]; try rfl) rfl ?_
      exact unhide HEND
end Go.Proofs.YtablincnlfbjnabDoor
