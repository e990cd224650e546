/- Package lex: the first word's kind and length. -/
import Derived.Test.YtablincnlfbjnabDoorLexNum2
import Derived.Test.YtablincnlfbjnabDoorLexGap
namespace Go.Proofs.YtablincnlfbjnabDoor
set_option maxRecDepth 100000
open Go.RowKit Go.Maps Go.ChangeShapes Go.WideShapes Go.ChangeAt

/-- Only more memory. -/
abbrev G (w w' : World) : Prop := Below w.heap.size w w'
theorem G.refl (w : World) : G w w := Below.refl _ _
theorem G.trans {w w1 w2 : World} (h : G w w1) (k : G w1 w2) : G w w2 := Below.trans h (Below.mono k (Below.size h))
/-- What strconv.ErrRange holds is an error. -/
def EvAt (w : World) : Prop := ∃ ev, w.cell? ⟨3, 0, none⟩ = some ev ∧ (ev = .nilIface ∨ ∃ te pe, ev = .iface te pe)
theorem EvAt.g {w w' : World} (h : EvAt w) (g : G w w') : EvAt w' := by
  obtain ⟨ev, h1, h2⟩ := h
  have hG : 3 < w.heap.size := Lib.lt_of_cell h1
  exact ⟨ev, (Below.cell g (show (⟨3, 0, none⟩ : Addr).block < w.heap.size from hG)).trans h1, h2⟩

theorem valF_le : ∀ (x : List UInt8) (a : Nat), a ≤ valF x a
  | [], a => Nat.le_refl _
  | c :: x, a => by
    have := valF_le x (a * 10 + (c.toNat - 48))
    show a ≤ valF x (a * 10 + (c.toNat - 48))
    omega
theorem parse_eq : ∀ (x : List UInt8) (a : Nat), (∀ c ∈ x, 48 ≤ c.toNat ∧ c.toNat ≤ 57) → a ≤ 4611686018427387903 → Lib.parseUintM 4611686018427387903 a x = if valF x a ≤ 4611686018427387903 then .ok (valF x a) else .range
  | [], a, _, h => by
    rw [if_pos (show valF [] a ≤ 4611686018427387903 from h)]
    rfl
  | c :: x, a, hd, h => by
    obtain ⟨h1, h2⟩ := hd c (by simp)
    have hv : valF (c :: x) a = valF x (a * 10 + (c.toNat - 48)) := rfl
    have hl := valF_le x (a * 10 + (c.toNat - 48))
    rw [hv]
    by_cases hcut : 1844674407370955162 ≤ a
    · rw [if_neg (by omega)]
      simp [Lib.parseUintM, h1, h2, hcut]
    · by_cases hov : 4611686018427387903 < a * 10 + (c.toNat - 48)
      · rw [if_neg (by omega)]
        simp [Lib.parseUintM, h1, h2, hcut, hov]
      · have := parse_eq x (a * 10 + (c.toNat - 48)) (fun d hd' => hd d (by simp [hd'])) (by omega)
        rw [← this]
        simp [Lib.parseUintM, h1, h2, hcut, hov]
theorem parseB_eq {x : List UInt8} (h0 : x ≠ []) (hd : ∀ c ∈ x, 48 ≤ c.toNat ∧ c.toNat ≤ 57) : Lib.parseUintB 62 x = if fitsP x = true then .ok (valF x 0) else .range := by
  have eM : (2 : Nat) ^ 62 - 1 = 4611686018427387903 := by decide
  rw [Lib.parseUintB, if_neg h0, eM, parse_eq x 0 hd (by omega)]
  simp [fitsP]

set_option maxHeartbeats 1000000 in
theorem nameOf_any (s : ByteArray) (w : World) (hs : s.size ≤ 1000000) : Calls Tryd.prog 21 #[.string s] w fun e w' => e = .returned (.tuple #[.int .i64 ((nameW s.data.toList).1 : Nat), .int .i64 ((nameW s.data.toList).2 : Nat)]) ∧ w' = w := by
  have K := kept_any s w
  have hl : s.data.toList.length = s.size := (Lib.size_eq s).symm
  by_cases h : 64 < s.size
  · have e : nameW s.data.toList = (0, 0) := if_pos (by rw [hl]; exact h)
    rw [e]
    clear K e hl
    have h2 : (64 : Int) < (s.size : Int) := by omega
    go_enter Tryd.func21, Tryd.ntmps21
    go_wp2_with fail
    go_ret2
    exact ⟨rfl, rfl⟩
  · have h2 : ¬ (64 : Int) < (s.size : Int) := by omega
    cases hk : keptP s.data.toList
    · have e : nameW s.data.toList = (1, s.size) := by rw [nameW, if_neg (by rw [hl]; exact h), if_neg (by rw [hk]; simp), hl]
      rw [e]
      rw [hk] at K
      clear hk e hl
      go_enter Tryd.func21, Tryd.ntmps21
      go_wp2_with fail
      refine K.mono ?_
      rintro e w' ⟨rfl, rfl⟩
      go_wp2_with fail
      go_ret2
      exact ⟨rfl, rfl⟩
    · have e : nameW s.data.toList = (2, s.size) := by rw [nameW, if_neg (by rw [hl]; exact h), if_pos hk, hl]
      rw [e]
      rw [hk] at K
      clear hk e hl
      go_enter Tryd.func21, Tryd.ntmps21
      go_wp2_with fail
      refine K.mono ?_
      rintro e w' ⟨rfl, rfl⟩
      go_wp2_with fail
      go_ret2
      exact ⟨rfl, rfl⟩

set_option maxHeartbeats 1000000 in
theorem numberOf_any (s : ByteArray) (w : World) (h0 : s.size ≠ 0) (hs : s.size ≤ 1000000) (hd : ∀ c ∈ s.data.toList, 48 ≤ c.toNat ∧ c.toNat ≤ 57) (hE : EvAt w) : Calls Tryd.prog 24 #[.string s] w fun e w' => e = .returned (.tuple #[.int .i64 ((numW s.data.toList).1 : Nat), .int .i64 ((numW s.data.toList).2 : Nat)]) ∧ G w w' := by
  have hl : s.data.toList.length = s.size := (Lib.size_eq s).symm
  have hne : s.data.toList ≠ [] := fun h => h0 (by rw [Lib.size_eq, h]; rfl)
  have P := parseB_eq hne hd
  obtain ⟨ev, hv, hev⟩ := hE
  cases hf : fitsP s.data.toList
  · rw [hf, if_neg (by simp)] at P
    have A := hide (parse_range s h0 (hide hd) (by omega) P ev w hv hev)
    have e : numW s.data.toList = (0, 0) := by rw [numW, if_neg (by rw [hf]; simp)]
    rw [e]
    clear P hd hne e hf hv hev hl
    go_enter Tryd.func24, Tryd.ntmps24
    go_wp2_with fail
    refine (unhide A).mono ?_
    rintro e w' ⟨M, N, rfl, hg⟩
    replace hg := hide hg
    clear A
    go_wp2_with fail
    go_ret2
    exact ⟨rfl, unhide hg⟩
  · rw [hf, if_pos rfl] at P
    have A := hide (parse_ok s h0 (hide hd) (by omega) _ P w)
    have e : numW s.data.toList = (3, s.size) := by rw [numW, if_pos hf, hl]
    rw [e]
    generalize valF s.data.toList 0 = V at A
    clear P hd hne e hf hv hev hl
    go_enter Tryd.func24, Tryd.ntmps24
    go_wp2_with fail
    refine (unhide A).mono ?_
    rintro e w' ⟨rfl, hW⟩
    have hg : Hid (G w w') := hide (by
      rcases hW with rfl | rfl
      · exact G.refl _
      · exact Lib.bytesWorld_below _ _ _)
    clear A hW
    go_wp2_with fail
    go_ret2
    exact ⟨rfl, unhide hg⟩
end Go.Proofs.YtablincnlfbjnabDoor
