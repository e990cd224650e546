/- bytes.Equal, HasPrefix, CutPrefix; Decode of package code. -/
import Derived.Test.YtdekhnfncecacaaDoorCodeRmd
import Derived.Lib.Bytes
namespace Go.Proofs.YtdekhnfncecacaaDoor
set_option maxRecDepth 100000
open Go.RowKit Go.Maps Go.ChangeShapes Go.WideShapes Go.ChangeAt Go.Deep

/-- A row of bytes as a string. -/
theorem conv_row {w : World} {ao : Option Addr} {n : Nat} {zs : List Int} (h : Row w ao n zs) (c : Nat) : (convert 31 9 (.slice ao n c)).run Tryd.prog w = .ok (.string (strOfNums zs)) w := by
  have key : n = 0 → (convert 31 9 (.slice ao n c)).run Tryd.prog w = .ok (.string (strOfNums zs)) w := fun h0 => by
    subst h0
    obtain rfl : zs = [] := List.eq_nil_of_length_eq_zero h.1
    cases ao with
    | none => exact run_convert_bytes_nil w 31 5 Tryd.underlying31 Tryd.underlying5 0 c 9 Tryd.underlying9
    | some a =>
      rw [run_convert_bytes_string w 31 9 5 _ 0 c Tryd.underlying31 Tryd.underlying5 Tryd.underlying9]
      exact run_bytesToString (P := Tryd.prog) w a 0 c [] (run_loadCells_list (P := Tryd.prog) w a [] (fun j v hj => by simp at hj))
  rcases h.2.2 with h0 | ⟨b, off, rfl, hc⟩
  · exact key h0
  · exact run_convert_bytes_arg w 31 5 Tryd.underlying31 Tryd.underlying5 b off n c zs h.1 hc 9 Tryd.underlying9
theorem str_inj {zs ys : List Int} (hz : Byt zs) (hy : Byt ys) (h : strOfNums zs = strOfNums ys) : zs = ys := by
  have h1 : zs.map (fun n => UInt8.ofNat n.toNat) = ys.map (fun n => UInt8.ofNat n.toNat) := by
    rw [← strOfNums_data, ← strOfNums_data, h]
  have key : ∀ l : List Int, Byt l → (l.map (fun n => UInt8.ofNat n.toNat)).map (fun x => (x.toNat : Int)) = l := by
    intro l hl
    rw [List.map_map]
    conv => rhs; rw [← List.map_id l]
    refine List.map_congr_left (fun z hz => ?_)
    have := hl z hz
    simp
    omega
  rw [← key zs hz, ← key ys hy, h1]

theorem str_eq {zs ys : List Int} (hz : Byt zs) (hy : Byt ys) : ((strOfNums zs).toList == (strOfNums ys).toList) = decide (zs = ys) := by
  by_cases e : zs = ys
  · rw [e]; simp
  · have : (strOfNums zs).toList ≠ (strOfNums ys).toList := fun h => e (str_inj hz hy (by
      rw [Lib.strOfNums_toList, Lib.strOfNums_toList] at h
      unfold strOfNums
      exact congrArg (fun l => (⟨List.toArray l⟩ : ByteArray)) h))
    rw [beq_eq_false_iff_ne.2 this]
    simp [e]

set_option maxHeartbeats 400000 in
theorem equal_any (w : World) (ao bo : Option Addr) (n c m d : Nat) (zs ys : List Int) (h1 : Row w ao n zs) (h2 : Row w bo m ys) :
    Calls Tryd.prog 75 #[.slice ao n c, .slice bo m d] w fun e w' => e = .returned (.bool (decide (zs = ys))) ∧ w' = w := by
  have e1 := conv_row h1 c
  have e2 := conv_row h2 d
  have KEY := hide (str_eq h1.2.1 h2.2.1)
  generalize strOfNums zs = S1 at *
  generalize strOfNums ys = S2 at *
  clear h1 h2
  go_enter Tryd.func75, Tryd.ntmps75
  go_wp2_with fail
  go_ret
  refine ⟨?_, rfl⟩
  rw [← unhide KEY]
  rfl

theorem fst_byt : Byt fst4 := by intro z hz; simp [fst4] at hz; omega
theorem Row.take {w : World} {ao : Option Addr} {n k : Nat} {zs : List Int} (h : Row w ao n zs) (hk : k ≤ n) : Row w ao k (zs.take k) := by
  refine ⟨by rw [List.length_take, h.1]; omega, fun z hz => h.2.1 z (List.mem_of_mem_take hz), ?_⟩
  rcases h.2.2 with h0 | ⟨b, off, e, hc⟩
  · exact Or.inl (by omega)
  · refine Or.inr ⟨b, off, e, fun i hi => ?_⟩
    rw [hc i (by omega)]
    simp [List.getD, hi]

set_option maxHeartbeats 1000000 in
theorem hasprefix_no (w : World) (ao bo : Option Addr) (n c : Nat) (hn : (n : Int) < 4) :
    Calls Tryd.prog 58 #[.slice ao n c, .slice bo 4 4] w fun e w' => e = .returned (.bool false) ∧ w' = w := by
  have hd : ¬ (4 : Int) ≤ (n : Int) := by omega
  have hd2 : ¬ 4 ≤ n := by omega
  go_enter Tryd.func58, Tryd.ntmps58
  go_wp2_with fail
  go_ret
  exact ⟨rfl, rfl⟩

set_option maxHeartbeats 1000000 in
theorem hasprefix_any (w : World) (b off : Nat) (bo : Option Addr) (n c : Nat) (zs : List Int) (h1 : Row w (some ⟨b, off, none⟩) n zs) (hnc : n ≤ c) (h2 : Row w bo 4 fst4) (hn : 4 ≤ n) :
    Calls Tryd.prog 58 #[.slice (some ⟨b, off, none⟩) n c, .slice bo 4 4] w fun e w' => e = .returned (.bool (decide (zs.take 4 = fst4))) ∧ w' = w := by
  have E := hide (equal_any w (some ⟨b, off, none⟩) bo 4 c 4 4 (zs.take 4) fst4 (h1.take hn) h2)
  obtain ⟨q, hq⟩ : ∃ q, q = decide (zs.take 4 = fst4) := ⟨_, rfl⟩
  rw [← hq] at E ⊢
  have hd : (4 : Int) ≤ (n : Int) := by omega
  clear h1 h2 hq
  go_enter Tryd.func58, Tryd.ntmps58
  go_wp2_with fail
  refine (unhide E).mono ?_
  rintro e w1 ⟨rfl, rfl⟩
  clear E
  go_wp2_with fail
  go_ret
  exact ⟨rfl, rfl⟩

theorem hasprefix (w : World) (ao bo : Option Addr) (n c : Nat) (zs : List Int) (h1 : Row w ao n zs) (hnc : n ≤ c) (h2 : Row w bo 4 fst4) :
    Calls Tryd.prog 58 #[.slice ao n c, .slice bo 4 4] w fun e w' => e = .returned (.bool (decide (zs.take 4 = fst4))) ∧ w' = w := by
  by_cases hn : 4 ≤ n
  · rcases h1.2.2 with h0 | ⟨b, off, rfl, _⟩
    · omega
    · exact hasprefix_any w b off bo n c zs h1 hnc h2 hn
  · have : ¬ zs.take 4 = fst4 := fun e => by
      have := congrArg List.length e
      rw [List.length_take, h1.1] at this
      simp [fst4] at this
      omega
    rw [decide_eq_false this]
    exact hasprefix_no w ao bo n c (by omega)

set_option maxHeartbeats 1000000 in
theorem cut_no (w : World) (ao bo : Option Addr) (n c : Nat) (H : Calls Tryd.prog 58 #[.slice ao n c, .slice bo 4 4] w fun e w' => e = .returned (.bool false) ∧ w' = w) :
    Calls Tryd.prog 30 #[.slice ao n c, .slice bo 4 4] w fun e w' => e = .returned (.tuple #[.slice ao n c, .bool false]) ∧ w' = w := by
  have HH := hide H
  clear H
  go_enter Tryd.func30, Tryd.ntmps30
  go_wp2_with fail
  refine (unhide HH).mono ?_
  rintro e w1 ⟨rfl, rfl⟩
  clear HH
  go_wp2_with fail
  go_ret2
  exact ⟨rfl, rfl⟩
/-- What CutPrefix answers, where the prefix is there. -/
def CutTo (e : Ending) (b off n c : Nat) : Prop := ∃ off', (n = 4 ∨ off' = off + 4) ∧ e = .returned (.tuple #[.slice (some ⟨b, off', none⟩) (n - 4) (c - 4), .bool true])
set_option maxHeartbeats 1000000 in
theorem cut_yes (w : World) (b off : Nat) (bo : Option Addr) (n c : Nat) (hn : 4 ≤ n) (hnc : n ≤ c) (H : Calls Tryd.prog 58 #[.slice (some ⟨b, off, none⟩) n c, .slice bo 4 4] w fun e w' => e = .returned (.bool true) ∧ w' = w) :
    Calls Tryd.prog 30 #[.slice (some ⟨b, off, none⟩) n c, .slice bo 4 4] w fun e w' => CutTo e b off n c ∧ w' = w := by
  have HH := hide H
  clear H
  go_enter Tryd.func30, Tryd.ntmps30
  go_wp2_with fail
  refine (unhide HH).mono ?_
  rintro e w1 ⟨rfl, rfl⟩
  clear HH
  go_wp2_with fail
  · obtain rfl : c = 4 := by omega
    go_ret2
    exact ⟨⟨off, Or.inl (by omega), rfl⟩, rfl⟩
  · go_ret2
    exact ⟨⟨off + 4, Or.inr rfl, rfl⟩, rfl⟩

/-- A module of nothing. -/
def noMd : Md := ⟨[], [], [], [], [], 0⟩
theorem noMd_at (w : World) : ModAt w (.agg #[.slice none 0 0, .slice none 0 0, .slice none 0 0, .slice none 0 0, .slice none 0 0, .int .i64 0]) noMd :=
  ⟨none, 0, none, 0, none, 0, none, 0, none, 0, rfl, RowAt.nil w, RowAt.nil w, RowAt.nil w, RowAt.nil w, RowAt.nil w⟩
/-- What Decode answers. -/
def DecTo (w w' : World) (zs : List Int) (e : Ending) : Prop := ∃ (v : Value) (er : Int) (m : Md), e = .returned (.tuple #[v, .int .i64 er]) ∧ ModAt w' v m ∧ oMd m ∧ G w w' ∧ ((decM zs = some m ∧ er = 0) ∨ (decM zs = none ∧ er = 3 ∧ m = noMd))
/-- Decode's first blocks. -/
abbrev decW (w : World) : World := (w.alloc (.cells #[.slice none 0 0, .slice none 0 0, .slice none 0 0, .slice none 0 0, .slice none 0 0, .int .i64 0] 28)).alloc (.cells #[.int .u8 71, .int .u8 79, .int .u8 76, .int .u8 49] 5 (4, 5))
theorem decW_row (w : World) : Row (decW w) (some ⟨w.heap.size + 1, 0, none⟩) 4 fst4 := by
  have s1 : (w.alloc (.cells #[.slice none 0 0, .slice none 0 0, .slice none 0 0, .slice none 0 0, .slice none 0 0, .int .i64 0] 28)).heap.size = w.heap.size + 1 := World.size_alloc _ _
  have e1 := heap_alloc_new (w.alloc (.cells #[.slice none 0 0, .slice none 0 0, .slice none 0 0, .slice none 0 0, .slice none 0 0, .int .i64 0] 28)) (.cells #[.int .u8 71, .int .u8 79, .int .u8 76, .int .u8 49] 5 (4, 5))
  rw [s1] at e1
  refine ⟨rfl, fst_byt, Or.inr ⟨w.heap.size + 1, 0, rfl, fun i hi => ?_⟩⟩
  rw [Nat.zero_add, cell_of_row _ _ i _ _ _ e1]
  match i, hi with
  | 0, _ => rfl
  | 1, _ => rfl
  | 2, _ => rfl
  | 3, _ => rfl
theorem noMd_ok : oMd noMd := ⟨⟨by unfold oU; decide, fun a ha => by cases ha⟩, ⟨by unfold oU; decide, fun a ha => by cases ha⟩, ⟨by unfold oU; decide, fun a ha => by cases ha⟩, ⟨by unfold oU; decide, fun a ha => by cases ha⟩, ⟨by unfold oU; decide, fun a ha => by cases ha⟩, by unfold oI; decide⟩

set_option maxHeartbeats 1000000 in
theorem decode_no (w : World) (ao : Option Addr) (n c : Nat) (zs : List Int) (h : Row w ao n zs) (hnc : n ≤ c) (hp : ¬ zs.take 4 = fst4) :
    Calls Tryd.prog 9 #[.slice ao n c] w fun e w' => DecTo w w' zs e := by
  have H := hasprefix (decW w) ao (some ⟨w.heap.size + 1, 0, none⟩) n c zs (h.later (((G.refl w).more _).more _)) hnc (decW_row w)
  rw [decide_eq_false hp] at H
  have C := hide (cut_no (decW w) ao _ n c H)
  have K : Hid (∀ w', G w w' → DecTo w w' zs (.returned (.tuple #[.agg #[.slice none 0 0, .slice none 0 0, .slice none 0 0, .slice none 0 0, .slice none 0 0, .int .i64 0], .int .i64 3]))) := hide fun w' hg => ⟨_, 3, noMd, rfl, noMd_at w', noMd_ok, hg, Or.inr ⟨by unfold decM; rw [if_neg hp], rfl, rfl⟩⟩
  have hcv := Lib.run_convert_bytes_const (P := Tryd.prog) (w.alloc (.cells #[.slice none 0 0, .slice none 0 0, .slice none 0 0, .slice none 0 0, .slice none 0 0, .int .i64 0] 28)) 31 5 #[.int .u8 71, .int .u8 79, .int .u8 76, .int .u8 49] 4 4 Tryd.underlying31 Tryd.underlying5
  rw [World.size_alloc] at hcv
  clear h hp H
  go_enter Tryd.func9, Tryd.ntmps9
  go_wp2_with fail
  refine (unhide C).mono ?_
  rintro e w1 ⟨rfl, rfl⟩
  clear C hcv
  go_wp2_with fail
  refine bodyPost_ret (by simp [results, Tryd.results9, go_sem]; try rfl) rfl ?_
  refine unhide K _ ?_
  exact (((G.refl w).more _).more _)
end Go.Proofs.YtdekhnfncecacaaDoor
