/- BitsOrder of package gantlinelaw1: for all uint64 a, b the law answers true; nothing that was there is turned. -/
import Derived.Test.YtdlnfmmblcfdoabDoorBase
import Derived.Test.YtdlnfmmblcfdoabDoorPutLaw
import Derived.Laws.BytesArg
namespace Go.Proofs.YtdlnfmmblcfdoabDoor
open Go.ChangeShapes Go.WideShapes Go.ChangeAt Go.RowKit

theorem encF_mono : ∀ f u v, u ≤ v → (encF f u).length ≤ (encF f v).length
  | 0, _, _, _ => by simp [encF]
  | f + 1, u, v, h => by
    by_cases hu : u < 128
    · rw [encF_stop _ u hu]; have := encF_len (f + 1) v; simp; omega
    · have hv : ¬ v < 128 := by omega
      rw [encF_more f u hu, encF_more f v hv]
      have := encF_mono f (u / 128) (v / 128) (by omega)
      simp; omega

theorem encF_prefix : ∀ f u v, (encF f u).take (min (encF f u).length (encF f v).length) = (encF f v).take (min (encF f u).length (encF f v).length) → u = v
  | 0, u, v, h => by simp [encF] at h; omega
  | f + 1, u, v, h => by
    have l1 := encF_len f (u / 128)
    have l2 := encF_len f (v / 128)
    by_cases hu : u < 128
    · by_cases hv : v < 128
      · rw [encF_stop _ u hu, encF_stop _ v hv] at h; simp at h; omega
      · rw [encF_stop _ u hu, encF_more f v hv] at h
        simp only [List.length_cons, List.length_nil] at h
        rw [show min (0 + 1) ((encF f (v / 128)).length + 1) = 1 by omega] at h
        simp at h; omega
    · by_cases hv : v < 128
      · rw [encF_stop _ v hv, encF_more f u hu] at h
        simp only [List.length_cons, List.length_nil] at h
        rw [show min ((encF f (u / 128)).length + 1) (0 + 1) = 1 by omega] at h
        simp at h; omega
      · rw [encF_more f u hu, encF_more f v hv] at h
        simp only [List.length_cons] at h
        rw [show min ((encF f (u / 128)).length + 1) ((encF f (v / 128)).length + 1) = min (encF f (u / 128)).length (encF f (v / 128)).length + 1 by omega] at h
        simp only [List.take_succ_cons, List.cons.injEq] at h
        have := encF_prefix f (u / 128) (v / 128) h.2
        have h1 := h.1
        omega

theorem encF_byte : ∀ f u, u < 2 * 128 ^ f → ∀ x ∈ encF f u, 0 ≤ x ∧ x ≤ 255
  | 0, u, h, x, hx => by simp [encF] at hx; simp at h; omega
  | f + 1, u, h, x, hx => by
    by_cases hu : u < 128
    · rw [encF_stop _ u hu] at hx; simp at hx; omega
    · rw [encF_more f u hu] at hx
      rcases List.mem_cons.1 hx with e | hx
      · omega
      · exact encF_byte f (u / 128) (by rw [Nat.pow_succ] at h; omega) x hx

theorem bytes_inj : ∀ (xs ys : List Int), (∀ x ∈ xs, 0 ≤ x ∧ x ≤ 255) → (∀ y ∈ ys, 0 ≤ y ∧ y ≤ 255) → (xs.map fun n => UInt8.ofNat n.toNat) = (ys.map fun n => UInt8.ofNat n.toNat) → xs = ys
  | [], [], _, _, _ => rfl
  | [], y :: ys, _, _, h => by simp at h
  | x :: xs, [], _, _, h => by simp at h
  | x :: xs, y :: ys, hx, hy, h => by
    simp only [List.map_cons, List.cons.injEq] at h
    have h1 := hx x (List.mem_cons_self ..)
    have h2 := hy y (List.mem_cons_self ..)
    have e : x.toNat = y.toNat := by
      have := congrArg UInt8.toNat h.1
      simp only [UInt8.toNat_ofNat'] at this
      omega
    have := bytes_inj xs ys (fun z hz => hx z (List.mem_cons_of_mem _ hz)) (fun z hz => hy z (List.mem_cons_of_mem _ hz)) h.2
    rw [this, show x = y by omega]

theorem str_ne {xs ys : List Int} (hx : ∀ x ∈ xs, 0 ≤ x ∧ x ≤ 255) (hy : ∀ y ∈ ys, 0 ≤ y ∧ y ≤ 255) (h : xs ≠ ys) : ((strOfNums xs).toList == (strOfNums ys).toList) = false := by
  rw [beq_eq_false_iff_ne]
  intro e
  apply h
  refine bytes_inj xs ys hx hy ?_
  rw [ByteArray.toList_eq, ByteArray.toList_eq] at e
  exact e

/-- The cells of a row that is owned. -/
theorem own_cells {w : World} {B g n cap : Nat} {zs : List Int} (h : w.ownsRow B 5 1 (.slice (some ⟨g, 0, none⟩) n cap) n (zs.map (Value.int .u8))) : zs.length = n ∧ n ≤ cap ∧ ∀ i, i < n → w.cell? ⟨g, i, none⟩ = some (.int .u8 (zs.getD i 0)) := by
  obtain ⟨hl, h⟩ := h
  have hz : zs.length = n := by simpa using hl
  rcases h with ⟨hv, _⟩ | ⟨g', cap', cur, hv, _, hh, hle, _, _, ht⟩
  · simp at hv
  · simp only [Value.slice.injEq, Option.some.injEq, Addr.mk.injEq] at hv
    obtain ⟨⟨rfl, _⟩, _, rfl⟩ := hv
    refine ⟨hz, hle, fun i hi => ?_⟩
    have e : cur.toList[i]? = some (Value.int .u8 (zs.getD i 0)) := by
      have := congrArg (·[i]?) ht
      simp only [Nat.mul_one, List.getElem?_take, hi, if_true, List.getElem?_map] at this
      rw [this, List.getElem?_eq_getElem (by omega)]
      simp [List.getD, List.getElem?_eq_getElem (show i < zs.length by omega)]
    simp [World.cell?, hh]
    simpa using e

theorem cells_conv {w : World} {g len cap : Nat} {zs : List Int} (hz : len ≤ zs.length) (hc : ∀ i, i < zs.length → w.cell? ⟨g, i, none⟩ = some (.int .u8 (zs.getD i 0))) :
    (convert 30 9 (.slice (some ⟨g, 0, none⟩) len cap)).run Tryd.prog w = .ok (.string (strOfNums (zs.take len))) w := by
  refine run_convert_bytes_arg w 30 5 Tryd.underlying30 Tryd.underlying5 g 0 len cap (zs.take len) (by simp; omega) (fun i hi => ?_) 9 Tryd.underlying9
  rw [Nat.zero_add, hc i (by omega)]
  simp [List.getD, hi]

theorem src_nil (w : World) : Src w none 0 [] := ⟨rfl, fun h => absurd h (by decide)⟩

theorem put_nil (u : Nat) (w : World) (hu : u < 18446744073709551616) :
    Calls Tryd.prog 12 #[.slice none 0 0, .int .u64 (u : Int)] w fun e w' => e = .returned (.slice (some ⟨w.heap.size, 0, none⟩) (encF 9 u).length 10)
      ∧ Hid (∀ i, i < (encF 9 u).length → w'.cell? ⟨w.heap.size, i, none⟩ = some (.int .u8 ((encF 9 u).getD i 0))) ∧ Hid (Below w.heap.size w w') ∧ w.heap.size < w'.heap.size := by
  refine (put_any none 0 0 u [] w (src_nil w) hu (by omega)).mono ?_
  rintro e w' ⟨rfl, hown, hb⟩
  simp only [Nat.zero_add, List.nil_append] at hown ⊢
  have hc := own_cells hown
  have hp := (encF_len 9 u).1
  have h0 := hc.2.2 0 (by omega)
  refine ⟨trivial, hc.2.2, hb, ?_⟩
  rcases Nat.lt_or_ge w.heap.size w'.heap.size with h | h
  · exact h
  · simp [World.cell?, Array.getElem?_eq_none h] at h0

set_option maxHeartbeats 400000 in
set_option maxRecDepth 100000 in
theorem order_lt (a b : Nat) (X Y : List Int) (S1 S2 : ByteArray) (w : World) (ht : Tab w)
    (P1 : Hid (∀ w, Calls Tryd.prog 12 #[.slice none 0 0, .int .u64 (a : Int)] w fun e w' => e = .returned (.slice (some ⟨w.heap.size, 0, none⟩) X.length 10) ∧ Hid (∀ i, i < X.length → w'.cell? ⟨w.heap.size, i, none⟩ = some (.int .u8 (X.getD i 0))) ∧ Hid (Below w.heap.size w w') ∧ w.heap.size < w'.heap.size))
    (P2 : Hid (∀ w, Calls Tryd.prog 12 #[.slice none 0 0, .int .u64 (b : Int)] w fun e w' => e = .returned (.slice (some ⟨w.heap.size, 0, none⟩) Y.length 10) ∧ Hid (∀ i, i < Y.length → w'.cell? ⟨w.heap.size, i, none⟩ = some (.int .u8 (Y.getD i 0))) ∧ Hid (Below w.heap.size w w') ∧ w.heap.size < w'.heap.size))
    (_la : 1 ≤ X.length ∧ X.length ≤ 10) (_lb : 1 ≤ Y.length ∧ Y.length ≤ 10) (hab : ((a : Int) == (b : Int)) = false) (hlt : (a : Int) < (b : Int)) (hl : X.length ≤ Y.length)
    (h1 : Hid (S1 = strOfNums (X.take X.length))) (h2 : Hid (S2 = strOfNums (Y.take X.length))) (hS : (S1.toList == S2.toList) = false) :
    Calls Tryd.prog 5 #[.int .u64 (a : Int), .int .u64 (b : Int)] w fun e w' => e = .returned (.bool true) ∧ Below w.heap.size w w' := by
  have C := hide (awake_any w ht)
  clear ht
  go_enter Tryd.func5, Tryd.ntmps5
  go_wp2_with fail
  refine (unhide C).mono ?_
  rintro e w1 ⟨rfl, _, hb1⟩
  have HB1 := hide hb1
  clear hb1 C
  go_wp2_with fail
  refine (unhide P1 _).mono ?_
  rintro e w2 ⟨rfl, HC2, HB2, hs2⟩
  go_wp2_with fail
  refine (unhide P2 _).mono ?_
  rintro e w3 ⟨rfl, HC3, HB3, hs3⟩
  have HC2' : Hid (∀ i, i < X.length → w3.cell? ⟨w1.heap.size, i, none⟩ = some (.int .u8 (X.getD i 0))) := fun i hi => cell_later (unhide HB3) (unhide HC2 i hi)
  have HBW : Hid (Below w.heap.size w w3) := ((unhide HB1).trans ((unhide HB2).mono (unhide HB1).size)).trans ((unhide HB3).mono (Nat.le_trans (unhide HB1).size (unhide HB2).size))
  clear HC2 HB1 HB2 HB3 P1 P2
  have cx : ∀ q, (convert 30 9 (.slice (some ⟨w1.heap.size, 0, none⟩) X.length 10)).run Tryd.prog (w3.drewN q) = .ok (.string S1) (w3.drewN q) := fun q => by rw [unhide h1]; exact cells_conv (w := w3.drewN q) (by omega) (unhide HC2')
  have cy : ∀ q, (convert 30 9 (.slice (some ⟨w2.heap.size, 0, none⟩) X.length 10)).run Tryd.prog (w3.drewN q) = .ok (.string S2) (w3.drewN q) := fun q => by rw [unhide h2]; exact cells_conv (w := w3.drewN q) (by omega) (unhide HC3)
  clear HC2' HC3
  go_wp2_with fail
  go_quiet (fail)
  go_wp2
  go_ret
  exact ⟨rfl, below_draws (unhide HBW) _⟩

set_option maxHeartbeats 400000 in
set_option maxRecDepth 100000 in
theorem order_gt (a b : Nat) (X Y : List Int) (S1 S2 : ByteArray) (w : World) (ht : Tab w)
    (P1 : Hid (∀ w, Calls Tryd.prog 12 #[.slice none 0 0, .int .u64 (a : Int)] w fun e w' => e = .returned (.slice (some ⟨w.heap.size, 0, none⟩) X.length 10) ∧ Hid (∀ i, i < X.length → w'.cell? ⟨w.heap.size, i, none⟩ = some (.int .u8 (X.getD i 0))) ∧ Hid (Below w.heap.size w w') ∧ w.heap.size < w'.heap.size))
    (P2 : Hid (∀ w, Calls Tryd.prog 12 #[.slice none 0 0, .int .u64 (b : Int)] w fun e w' => e = .returned (.slice (some ⟨w.heap.size, 0, none⟩) Y.length 10) ∧ Hid (∀ i, i < Y.length → w'.cell? ⟨w.heap.size, i, none⟩ = some (.int .u8 (Y.getD i 0))) ∧ Hid (Below w.heap.size w w') ∧ w.heap.size < w'.heap.size))
    (_la : 1 ≤ X.length ∧ X.length ≤ 10) (_lb : 1 ≤ Y.length ∧ Y.length ≤ 10) (hab : ((a : Int) == (b : Int)) = false) (hlt : ¬ (a : Int) < (b : Int)) (hl : Y.length < X.length)
    (h1 : Hid (S1 = strOfNums (X.take Y.length))) (h2 : Hid (S2 = strOfNums (Y.take Y.length))) (hS : (S1.toList == S2.toList) = false) :
    Calls Tryd.prog 5 #[.int .u64 (a : Int), .int .u64 (b : Int)] w fun e w' => e = .returned (.bool true) ∧ Below w.heap.size w w' := by
  have C := hide (awake_any w ht)
  clear ht
  go_enter Tryd.func5, Tryd.ntmps5
  go_wp2_with fail
  refine (unhide C).mono ?_
  rintro e w1 ⟨rfl, _, hb1⟩
  have HB1 := hide hb1
  clear hb1 C
  go_wp2_with fail
  refine (unhide P1 _).mono ?_
  rintro e w2 ⟨rfl, HC2, HB2, hs2⟩
  go_wp2_with fail
  refine (unhide P2 _).mono ?_
  rintro e w3 ⟨rfl, HC3, HB3, hs3⟩
  have HC2' : Hid (∀ i, i < X.length → w3.cell? ⟨w1.heap.size, i, none⟩ = some (.int .u8 (X.getD i 0))) := fun i hi => cell_later (unhide HB3) (unhide HC2 i hi)
  have HBW : Hid (Below w.heap.size w w3) := ((unhide HB1).trans ((unhide HB2).mono (unhide HB1).size)).trans ((unhide HB3).mono (Nat.le_trans (unhide HB1).size (unhide HB2).size))
  clear HC2 HB1 HB2 HB3 P1 P2
  have cx : ∀ q, (convert 30 9 (.slice (some ⟨w1.heap.size, 0, none⟩) Y.length 10)).run Tryd.prog (w3.drewN q) = .ok (.string S1) (w3.drewN q) := fun q => by rw [unhide h1]; exact cells_conv (w := w3.drewN q) (by omega) (unhide HC2')
  have cy : ∀ q, (convert 30 9 (.slice (some ⟨w2.heap.size, 0, none⟩) Y.length 10)).run Tryd.prog (w3.drewN q) = .ok (.string S2) (w3.drewN q) := fun q => by rw [unhide h2]; exact cells_conv (w := w3.drewN q) (by omega) (unhide HC3)
  clear HC2' HC3
  go_wp2_with fail
  go_quiet (fail)
  go_wp2
  go_ret
  exact ⟨rfl, below_draws (unhide HBW) _⟩

set_option maxHeartbeats 400000 in
set_option maxRecDepth 100000 in
theorem order_ge (a b : Nat) (X Y : List Int) (S1 S2 : ByteArray) (w : World) (ht : Tab w)
    (P1 : Hid (∀ w, Calls Tryd.prog 12 #[.slice none 0 0, .int .u64 (a : Int)] w fun e w' => e = .returned (.slice (some ⟨w.heap.size, 0, none⟩) X.length 10) ∧ Hid (∀ i, i < X.length → w'.cell? ⟨w.heap.size, i, none⟩ = some (.int .u8 (X.getD i 0))) ∧ Hid (Below w.heap.size w w') ∧ w.heap.size < w'.heap.size))
    (P2 : Hid (∀ w, Calls Tryd.prog 12 #[.slice none 0 0, .int .u64 (b : Int)] w fun e w' => e = .returned (.slice (some ⟨w.heap.size, 0, none⟩) Y.length 10) ∧ Hid (∀ i, i < Y.length → w'.cell? ⟨w.heap.size, i, none⟩ = some (.int .u8 (Y.getD i 0))) ∧ Hid (Below w.heap.size w w') ∧ w.heap.size < w'.heap.size))
    (_la : 1 ≤ X.length ∧ X.length ≤ 10) (_lb : 1 ≤ Y.length ∧ Y.length ≤ 10) (hab : ((a : Int) == (b : Int)) = false) (hlt : ¬ (a : Int) < (b : Int)) (hl : ¬ Y.length < X.length)
    (h1 : Hid (S1 = strOfNums (X.take X.length))) (h2 : Hid (S2 = strOfNums (Y.take X.length))) (hS : (S1.toList == S2.toList) = false) :
    Calls Tryd.prog 5 #[.int .u64 (a : Int), .int .u64 (b : Int)] w fun e w' => e = .returned (.bool true) ∧ Below w.heap.size w w' := by
  have C := hide (awake_any w ht)
  clear ht
  go_enter Tryd.func5, Tryd.ntmps5
  go_wp2_with fail
  refine (unhide C).mono ?_
  rintro e w1 ⟨rfl, _, hb1⟩
  have HB1 := hide hb1
  clear hb1 C
  go_wp2_with fail
  refine (unhide P1 _).mono ?_
  rintro e w2 ⟨rfl, HC2, HB2, hs2⟩
  go_wp2_with fail
  refine (unhide P2 _).mono ?_
  rintro e w3 ⟨rfl, HC3, HB3, hs3⟩
  have HC2' : Hid (∀ i, i < X.length → w3.cell? ⟨w1.heap.size, i, none⟩ = some (.int .u8 (X.getD i 0))) := fun i hi => cell_later (unhide HB3) (unhide HC2 i hi)
  have HBW : Hid (Below w.heap.size w w3) := ((unhide HB1).trans ((unhide HB2).mono (unhide HB1).size)).trans ((unhide HB3).mono (Nat.le_trans (unhide HB1).size (unhide HB2).size))
  clear HC2 HB1 HB2 HB3 P1 P2
  have cx : ∀ q, (convert 30 9 (.slice (some ⟨w1.heap.size, 0, none⟩) X.length 10)).run Tryd.prog (w3.drewN q) = .ok (.string S1) (w3.drewN q) := fun q => by rw [unhide h1]; exact cells_conv (w := w3.drewN q) (by omega) (unhide HC2')
  have cy : ∀ q, (convert 30 9 (.slice (some ⟨w2.heap.size, 0, none⟩) X.length 10)).run Tryd.prog (w3.drewN q) = .ok (.string S2) (w3.drewN q) := fun q => by rw [unhide h2]; exact cells_conv (w := w3.drewN q) (by omega) (unhide HC3)
  clear HC2' HC3
  go_wp2_with fail
  go_quiet (fail)
  go_wp2
  go_ret
  exact ⟨rfl, below_draws (unhide HBW) _⟩

set_option maxHeartbeats 400000 in
set_option maxRecDepth 100000 in
theorem order_eq (a b : Nat) (X Y : List Int) (S1 S2 : ByteArray) (w : World) (ht : Tab w)
    (P1 : Hid (∀ w, Calls Tryd.prog 12 #[.slice none 0 0, .int .u64 (a : Int)] w fun e w' => e = .returned (.slice (some ⟨w.heap.size, 0, none⟩) X.length 10) ∧ Hid (∀ i, i < X.length → w'.cell? ⟨w.heap.size, i, none⟩ = some (.int .u8 (X.getD i 0))) ∧ Hid (Below w.heap.size w w') ∧ w.heap.size < w'.heap.size))
    (P2 : Hid (∀ w, Calls Tryd.prog 12 #[.slice none 0 0, .int .u64 (b : Int)] w fun e w' => e = .returned (.slice (some ⟨w.heap.size, 0, none⟩) Y.length 10) ∧ Hid (∀ i, i < Y.length → w'.cell? ⟨w.heap.size, i, none⟩ = some (.int .u8 (Y.getD i 0))) ∧ Hid (Below w.heap.size w w') ∧ w.heap.size < w'.heap.size))
    (_la : 1 ≤ X.length ∧ X.length ≤ 10) (_lb : 1 ≤ Y.length ∧ Y.length ≤ 10) (hab : ((a : Int) == (b : Int)) = true) (hlt : ¬ (a : Int) < (b : Int))
    (h1 : Hid (S1 = strOfNums (X.take X.length))) (h2 : Hid (S2 = strOfNums (Y.take Y.length))) (hS : (S1.toList == S2.toList) = true) :
    Calls Tryd.prog 5 #[.int .u64 (a : Int), .int .u64 (b : Int)] w fun e w' => e = .returned (.bool true) ∧ Below w.heap.size w w' := by
  have C := hide (awake_any w ht)
  clear ht
  go_enter Tryd.func5, Tryd.ntmps5
  go_wp2_with fail
  refine (unhide C).mono ?_
  rintro e w1 ⟨rfl, _, hb1⟩
  have HB1 := hide hb1
  clear hb1 C
  go_wp2_with fail
  refine (unhide P1 _).mono ?_
  rintro e w2 ⟨rfl, HC2, HB2, hs2⟩
  go_wp2_with fail
  refine (unhide P2 _).mono ?_
  rintro e w3 ⟨rfl, HC3, HB3, hs3⟩
  have HC2' : Hid (∀ i, i < X.length → w3.cell? ⟨w1.heap.size, i, none⟩ = some (.int .u8 (X.getD i 0))) := fun i hi => cell_later (unhide HB3) (unhide HC2 i hi)
  have HBW : Hid (Below w.heap.size w w3) := ((unhide HB1).trans ((unhide HB2).mono (unhide HB1).size)).trans ((unhide HB3).mono (Nat.le_trans (unhide HB1).size (unhide HB2).size))
  clear HC2 HB1 HB2 HB3 P1 P2
  have cx : (convert 30 9 (.slice (some ⟨w1.heap.size, 0, none⟩) X.length 10)).run Tryd.prog w3 = .ok (.string S1) w3 := by rw [unhide h1]; exact cells_conv (by omega) (unhide HC2')
  have cy : (convert 30 9 (.slice (some ⟨w2.heap.size, 0, none⟩) Y.length 10)).run Tryd.prog w3 = .ok (.string S2) w3 := by rw [unhide h2]; exact cells_conv (by omega) (unhide HC3)
  clear HC2' HC3
  go_wp2
  go_ret
  exact ⟨rfl, unhide HBW⟩

theorem take_bytes {xs : List Int} (n : Nat) (h : ∀ x ∈ xs, 0 ≤ x ∧ x ≤ 255) : ∀ x ∈ xs.take n, 0 ≤ x ∧ x ≤ 255 := fun x hx => h x (List.mem_of_mem_take hx)

theorem walk_BitsOrder (a0 a1 : Int) (w0 : (Lit.int .u64 a0).wf = true) (w1 : (Lit.int .u64 a1).wf = true) (w : World) (ht : Tab w) :
    Calls Tryd.prog 5 #[.int .u64 a0, .int .u64 a1] w fun e w' => e = .returned (.bool true) ∧ Below w.heap.size w w' := by
  have b0 := bounds_u64 w0
  have b1 := bounds_u64 w1
  obtain ⟨a, rfl⟩ := Int.eq_ofNat_of_zero_le b0.1
  obtain ⟨b, rfl⟩ := Int.eq_ofNat_of_zero_le b1.1
  have ha : a < 18446744073709551616 := by omega
  have hb : b < 18446744073709551616 := by omega
  have P1 := hide (fun w => put_nil a w ha)
  have P2 := hide (fun w => put_nil b w hb)
  have la := encF_len 9 a
  have lb := encF_len 9 b
  have ya := encF_byte 9 a (by simpa using ha)
  have yb := encF_byte 9 b (by simpa using hb)
  have hm := encF_mono 9 a b
  have hp : a ≠ b → (encF 9 a).take (min (encF 9 a).length (encF 9 b).length) ≠ (encF 9 b).take (min (encF 9 a).length (encF 9 b).length) := fun hab h => hab (encF_prefix 9 a b h)
  have hE : a = b → encF 9 a = encF 9 b := fun h => by rw [h]
  generalize encF 9 a = X at *
  generalize encF 9 b = Y at *
  by_cases hab : a = b
  · have hE2 := hE hab
    exact order_eq a b X Y _ _ w ht P1 P2 la lb (by rw [hab]; simp) (by omega) rfl rfl (by rw [hE2]; simp)
  · have hab2 : ((a : Int) == (b : Int)) = false := beq_eq_false_iff_ne.2 (by omega)
    have hp2 := hp hab
    by_cases hlt : (a : Int) < (b : Int)
    · have hm2 := hm (by omega)
      rw [Nat.min_eq_left hm2] at hp2
      exact order_lt a b X Y _ _ w ht P1 P2 la lb hab2 hlt hm2 rfl rfl (str_ne (take_bytes _ ya) (take_bytes _ yb) hp2)
    · by_cases hl : Y.length < X.length
      · rw [Nat.min_eq_right (by omega)] at hp2
        exact order_gt a b X Y _ _ w ht P1 P2 la lb hab2 hlt hl rfl rfl (str_ne (take_bytes _ ya) (take_bytes _ yb) hp2)
      · rw [Nat.min_eq_left (by omega)] at hp2
        exact order_ge a b X Y _ _ w ht P1 P2 la lb hab2 hlt hl rfl rfl (str_ne (take_bytes _ ya) (take_bytes _ yb) hp2)

set_option maxRecDepth 100000 in
theorem lifted_BitsOrder (os : Os) (started : os.Started) (H : Type) (enc : TypeId × Value → H) :
    ReturnsInHanded {} Tryd.checked os 5 .any (fun w args => (Rows.bitsOrderSpec.pre enc Tryd.prog Tryd.f5 [] false w args ∧ laidMetH Tryd.prog laidTab w) ∧ sizedMet enc Tryd.prog Tryd.f5 (OpenSpec.ofChange Rows.bitsOrderSpec) false w args)
      (Rows.bitsOrderSpec.post enc Tryd.prog Tryd.f5 false true false false) := by
  refine returnsInHanded_of_change_and (C := Tryd.checked) (X := fun w _ => laidMetH Tryd.prog laidTab w) (fun _ _ _ hh h => h.of_heap hh) own started (by kernel_rfl) Tryd.func5
    (ChangeSpec.witness_shaped (enc := enc) (C := Tryd.checked) (os := os) (X := fun w _ => laidMetH Tryd.prog laidTab w) false (World.doorLaid Tryd.prog 400 os) #[.int .u64 0, .int .u64 0] 8 rfl (World.shaped_of_RefB (by kernel_rfl) (by kernel_rfl)) (by kernel_rfl) (by kernel_rfl) (by kernel_rfl) (door_met os _)) ?_
  intro W base args ds gs before hval0 hW _ _ hL _
  have hval : ∀ (j : Nat) t v, Tryd.f5.params[j]? = some t → args[j]? = some v → Value.okWide Tryd.prog W .any base t v := hval0
  have hW' := hW
  obtain ⟨p, q, hA0, hV, rfl, hfz, hnd⟩ := hW
  have hA : DataW.TrodAll enc Tryd.prog W 0 (fun _ => true) true Tryd.f5.params.toList args.toList ds p := hA0
  rw [Tryd.params5] at hA hval
  obtain ⟨v0, vs0, d0, ds0, p0, q0, hargs, rfl, rfl, h0, r0⟩ := trodAll_cons hA
  obtain ⟨v1, vs1, d1, ds1, p1, q1, rfl, rfl, rfl, h1, r1⟩ := trodAll_cons r0
  obtain ⟨rfl, rfl, rfl⟩ := trodAll_nil r1
  obtain rfl : args = #[v0, v1] := by cases args; simp_all
  obtain ⟨rfl, rfl⟩ := trodVars_none hV
  obtain ⟨a0, rfl, rfl, rfl, w0⟩ := open_int Tryd.underlying22 (hval 0 22 v0 rfl rfl) h0
  obtain ⟨a1, rfl, rfl, rfl, w1⟩ := open_int Tryd.underlying22 (hval 1 22 v1 rfl rfl) h1
  clear hA0 hval0
  simp only [List.append_nil] at hW'
  refine (walk_BitsOrder a0 a1 w0 w1 W (tab_of_laid hL)).mono fun e W' ⟨he, hg⟩ => ?_
  subst he
  exact ⟨_, rfl, _, _, _, [], [], [], hW', trodAll_mk1 (shut_bool Tryd.underlying4 _), (trodAll_cons_mk (shut_int Tryd.underlying22 w0) (trodAll_cons_mk (shut_int Tryd.underlying22 w1) trodAll_mk0)), rfl, hg.frame _, fun h => by cases h⟩

theorem row_BitsOrder : Rows.BitsOrderSaid :=
  OpenClaim.holds_of_wide 5 Tryd.f5 rfl rfl rfl rfl rfl rfl rfl ⟨rfl, rfl, rfl, rfl, rfl⟩ rfl rfl rfl rfl rfl (by kernel_rfl) Tryd.func5 (by kernel_rfl)
    (of_decide_eq_true (by kernel_rfl)) (by unfold Func.isWrapper; first | (rw [if_pos (by decide +kernel)]; kernel_rfl) | (rw [if_neg (by decide +kernel)]; exact ⟨rfl, rfl⟩))
    (fun os started H enc _ => lifted_BitsOrder os started H enc)

/-- THE STATEMENT. -/
theorem card_BitsOrder : Rows.BitsOrderCardSaid :=
  Claim7.holds_tied_plain_at .later [] [.data] true (true, "f039b18ea7795c9193c642325158515576d5d28e75834aa4ebfd5f8a0cc8d799") false
    row_BitsOrder (fun _ h => by cases h) (by kernel_rfl) (fun _ h => by cases h) bitsOrder_row_tie rfl ⟨rfl, rfl⟩ (by kernel_rfl) rfl
    (fun f fn hf hfn => by
      obtain rfl : f = 5 := Option.some.inj ((show Tryd.prog.funcNamed "gantline/gantlinelaw1.BitsOrder" = some 5 by kernel_rfl).symm.trans hf) |>.symm
      obtain rfl : fn = Tryd.f5 := (Option.some.inj (Tryd.func5.symm.trans hfn)).symm
      exact ⟨by kernel_rfl, fun j t ht => by
        rw [Tryd.params5] at ht
        have hm : t ∈ [22, 22] := by simpa using Array.mem_of_getElem? ht
        have hall : ([22, 22].all fun u => !Tryd.prog.wantsStandIn u) = true := by kernel_rfl
        exact (show Tryd.prog.wantsStandIn t = false by simpa using List.all_eq_true.1 hall t hm)⟩)
    (by kernel_rfl)
#print axioms card_BitsOrder
end Go.Proofs.YtdlnfmmblcfdoabDoor
