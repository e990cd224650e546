/- strconv.ParseUint at rows of digits, 62 bits, the rest (turned by py/lexnum.py out of the shelf's texts on other sizes). -/
import Derived.Test.YtablincnlfbjnabDoorLexNum
import Derived.Lib.Strings
import Derived.Lib.ConvBytes
import Derived.Lib.ParseIntBMem
import Derived.Lib.AtoiErrMem
import Derived.Laws.Strings3
import Derived.Laws.Closers25
import Derived.Laws.Closers25b
import Derived.BigCall
import Derived.BigGuard
import Derived.Shelf.RegionOpenPlain
import Derived.Shelf.Abstract
import Derived.Lib.IfaceEq
namespace Go.Proofs.YtablincnlfbjnabDoor
set_option maxRecDepth 100000
open Go.RowKit Go.Maps Go.ChangeShapes Go.WideShapes Go.ChangeAt

theorem cmp_serr : (Tryd.prog.info? 79).map (·.comparable) = some true := by kernel_rfl
set_option maxHeartbeats 6400000 in
theorem rangeError_any (fn s : ByteArray) (ev : Value) (w : World) (hlim : s.size ≤ 281474976710656) (hv : w.cell? ⟨3, 0, none⟩ = some ev)
    (hev : ev = .nilIface ∨ ∃ te pe, ev = .iface te pe) :
    Calls Tryd.prog 68 #[.string fn, .string s] w fun e w' => ∃ N, e = .returned (.pointer (some ⟨N, 0, none⟩)) ∧ w.heap.size ≤ N ∧ w'.heap[N]? = some (.cells #[.string fn, .string s, ev] 97 (0, 0)) ∧ Below w.heap.size w w' := by
  rcases hev with rfl | ⟨te, pe, rfl⟩
  all_goals (
    have hG : 3 < w.heap.size := Lib.lt_of_cell hv
    have hvd : w.drew.cell? ⟨3, 0, none⟩ = some _ := hv
    go_enter Tryd.func68, Tryd.ntmps68
    go_wp2
    go_region_with (
        refine (slclone_any s _ hlim).mono ?_
        rintro e w2 ⟨rfl, hbel⟩
        have hv2 : w2.cell? ⟨3, 0, none⟩ = some _ := (hbel.cell (show (⟨3, 0, none⟩ : Addr).block < w.drew.heap.size from hG)).trans hvd)
    all_goals (
      go_wp2
      go_ret
      have hs2 : w.heap.size ≤ w2.heap.size := hbel.size
      exact ⟨_, rfl, hs2, heap_alloc_new w2 _, ((Below.drew (Below.refl _ w)).trans hbel).alloc hs2 _⟩))

set_option maxHeartbeats 4000000 in
theorem toError_any (fn s : ByteArray) (base bits : Int) (ev : Value) (w : World) (hlim : s.size ≤ 281474976710656) (hv : w.cell? ⟨3, 0, none⟩ = some ev) (hev : ev = .nilIface ∨ ∃ te pe, ev = .iface te pe) :
    Calls Tryd.prog 56 #[.string fn, .string s, .int .i64 base, .int .i64 bits, .iface 79 (.int .i64 1)] w fun e w' => ∃ N, e = .returned (.iface 82 (.pointer (some ⟨N, 0, none⟩))) ∧ w.heap.size ≤ N ∧ w'.heap[N]? = some (.cells #[.string fn, .string s, ev] 97 (0, 0)) ∧ Below w.heap.size w w' := by
  -- 'err == strconv.ErrSyntax': no; 'err == strconv.ErrRange': yes: for the walk to take
  have hq12 : ∀ W, (binOp .eql 61 (.iface 79 (.int .i64 1)) (.iface 79 (.int .i64 2))).run Tryd.prog W = .ok (.bool false) W := fun W => Lib.run_eql_iface_int W 1 2 Tryd.underlying61 cmp_serr Tryd.underlying79
  have hq11 : ∀ W, (binOp .eql 61 (.iface 79 (.int .i64 1)) (.iface 79 (.int .i64 1))).run Tryd.prog W = .ok (.bool true) W := fun W => Lib.run_eql_iface_int W 1 1 Tryd.underlying61 cmp_serr Tryd.underlying79
  go_enter Tryd.func56, Tryd.ntmps56
  go_wp2_with (refine (rangeError_any fn s ev _ hlim ?_ hev).mono ?_)
  · exact hv
  rintro e w2 ⟨N, rfl, h1, h2, h3⟩
  go_wp2
  go_ret
  exact ⟨N, rfl, h1, h2, h3⟩

theorem iparse62 (s : ByteArray) (h0 : s.size ≠ 0) (hmax : s.size ≤ 9223372036854775806) (hdg : Hid (∀ c ∈ s.data.toList, 48 ≤ c.toNat ∧ c.toNat ≤ 57)) (w : World) :
    Calls Tryd.prog 55 #[.string s, .int .i64 10, .int .i64 62] w fun e w' => e = .returned (Lib.uintTupleM 79 4611686018427387903 (Lib.parseUintB 62 s.data.toList)) ∧ (w' = w ∨ w' = Lib.bytesWorld w 5 s) := by
  have eM : (2 : Nat) ^ 62 - 1 = 4611686018427387903 := by decide
  have hne : s.data.toList ≠ [] := fun h => h0 (by rw [Lib.size_eq, h]; rfl)
  refine (iparse_any s h0 hmax hdg w).mono fun e w' ⟨he, hw⟩ => ⟨?_, Or.inr hw⟩
  rw [he, Lib.parseUintB, if_neg hne, eM]

set_option maxHeartbeats 4000000 in
theorem parse_ok (s : ByteArray) (h0 : s.size ≠ 0) (hdg : Hid (∀ c ∈ s.data.toList, 48 ≤ c.toNat ∧ c.toNat ≤ 57)) (hmax : s.size ≤ 9223372036854775806) (u : Nat) (h : Lib.parseUintB 62 s.data.toList = .ok u) (w : World) :
    Calls Tryd.prog 38 #[.string s, .int .i64 10, .int .i64 62] w fun e w' => e = .returned (.tuple #[.int .u64 u, .nilIface]) ∧ (w' = w ∨ w' = Lib.bytesWorld w 5 s) := by
  have hI := iparse62 s h0 hmax hdg w
  rw [h] at hI
  have hI : Calls Tryd.prog 55 #[.string s, .int .i64 10, .int .i64 62] w fun e w' => e = .returned (.tuple #[.int .u64 u, .nilIface]) ∧ (w' = w ∨ w' = Lib.bytesWorld w 5 s) := hI
  clear h
  go_enter Tryd.func38, Tryd.ntmps38
  go_wp2_with (refine hI.mono ?_; rintro e W1 ⟨rfl, hW⟩)
  go_wp2_with fail
  go_ret2
  exact ⟨rfl, hW⟩

set_option maxHeartbeats 1000000 in
theorem parse_range (s : ByteArray) (h0 : s.size ≠ 0) (hdg : Hid (∀ c ∈ s.data.toList, 48 ≤ c.toNat ∧ c.toNat ≤ 57)) (hlim : s.size ≤ 281474976710656) (h : Lib.parseUintB 62 s.data.toList = .range) (ev : Value) (w : World) (hv : w.cell? ⟨3, 0, none⟩ = some ev) (hev : ev = .nilIface ∨ ∃ te pe, ev = .iface te pe) :
    Calls Tryd.prog 38 #[.string s, .int .i64 10, .int .i64 62] w fun e w' => ∃ M N, e = .returned (.tuple #[.int .u64 M, .iface 82 (.pointer (some ⟨N, 0, none⟩))]) ∧ Below w.heap.size w w' := by
  have hG : 3 < w.heap.size := Lib.lt_of_cell hv
  have hI0 := iparse62 s h0 (by omega) hdg w
  rw [h] at hI0
  obtain ⟨M, hI⟩ : ∃ M : Int, Hid (Calls Tryd.prog 55 #[.string s, .int .i64 10, .int .i64 62] w fun e w' => e = .returned (.tuple #[.int .u64 M, .iface 79 (.int .i64 1)]) ∧ (w' = w ∨ w' = Lib.bytesWorld w 5 s)) := ⟨_, hide hI0⟩
  clear hI0 h hdg h0
  have hT : Hid (∀ W1, (W1 = w ∨ W1 = Lib.bytesWorld w 5 s) → Below w.heap.size w W1 ∧ ∀ fn, Calls Tryd.prog 56 #[.string fn, .string s, .int .i64 10, .int .i64 62, .iface 79 (.int .i64 1)] W1 fun e w' => ∃ N, e = .returned (.iface 82 (.pointer (some ⟨N, 0, none⟩))) ∧ Below W1.heap.size W1 w') := hide fun W1 hW => by
    have hb1 : Below w.heap.size w W1 := by
      rcases hW with rfl | rfl
      · exact Below.refl _ _
      · exact Lib.bytesWorld_below _ _ _
    have hv1 : W1.cell? ⟨3, 0, none⟩ = some ev := (hb1.cell (show (⟨3, 0, none⟩ : Addr).block < w.heap.size from hG)).trans hv
    refine ⟨hb1, fun fn => (toError_any fn s 10 62 ev W1 hlim hv1 hev).mono ?_⟩
    rintro e w2 ⟨N, rfl, h1, h2, h3⟩
    exact ⟨N, rfl, h3⟩
  clear hv hev hG hlim
  go_enter Tryd.func38, Tryd.ntmps38
  go_wp2_with fail
  refine (unhide hI).mono ?_
  rintro e W1 ⟨rfl, hW⟩
  obtain ⟨hb1, C0⟩ := unhide hT W1 hW
  have hb2 := hide hb1
  have C := hide C0
  clear hW hb1 C0 hT hI
  go_wp2_with fail
  refine (unhide C _).mono ?_
  rintro e W2 ⟨N, rfl, h3⟩
  replace h3 := hide h3
  clear C
  go_wp2_with fail
  go_ret2
  exact ⟨M, N, rfl, (unhide hb2).trans ((unhide h3).mono (unhide hb2).size)⟩

end Go.Proofs.YtablincnlfbjnabDoor
