/- writeList of package code at its types; a function; a module. -/
import Derived.Test.YtdekhnfncecacaaDoorCodeWr3
namespace Go.Proofs.YtdekhnfncecacaaDoor
set_option maxRecDepth 100000
open Go.RowKit Go.Maps Go.ChangeShapes Go.WideShapes Go.ChangeAt Go.Deep

set_option maxHeartbeats 1000000 in
theorem wl_shape (w0 w : World) (wb g cap : Nat) (ao : Option Addr) (n c : Nat) (l : List Sp) (bs : List Int) (h0 : G w0 w) (h : WrAt w w0.heap.size wb g cap bs) (hr : RowAt elSp w0 ao n c l) (hv : ∀ a ∈ l, oSp a) (hn : bs.length + (eL eSp l).length ≤ 20000000) :
    Calls Tryd.prog 19 #[.pointer (some ⟨wb, 0, none⟩), .slice ao n c, .func (.func 20) #[] #[]] w fun e w' => e = .returned (.tuple #[]) ∧ WrTo w w' w0.heap.size wb g (bs ++ eL eSp l) := by
  have hln := hr.1
  have hmax := hr.2.1
  have hel : (eL eSp l).length = (eU n).length + (l.flatMap eSp).length := by unfold eL; rw [List.length_append, hln]
  have hmx : n ≤ 20000000 := by have := flat_len cSp l hv; omega
  have hoU : oU n := by unfold oU; omega
  have N := hide (w_number w w0.heap.size wb g cap n bs h hoU (by omega) h0.size)
  have FI : Hid (bs ++ (eU n ++ (l.take n).flatMap eSp) = bs ++ eL eSp l) := by
    unfold eL
    rw [hln, List.take_of_length_le (by omega)]
    exact hide rfl
  have RD : Hid (∀ (k : Nat) (wr : World), k < n → WrTo w wr w0.heap.size wb g (bs ++ (eU n ++ (l.take k).flatMap eSp)) → ∃ (b off : Nat) (a : Sp), ao = some ⟨b, off, none⟩ ∧ wr.cell? ⟨b, off + k * 3, none⟩ = some (.int .i64 a.k) ∧ wr.cell? ⟨b, off + k * 3 + 1, none⟩ = some (.int .i64 a.f) ∧ wr.cell? ⟨b, off + k * 3 + 2, none⟩ = some (.int .u64 (a.m : Int)) ∧
      Calls Tryd.prog 20 #[.pointer (some ⟨wb, 0, none⟩), .agg #[.int .i64 a.k, .int .i64 a.f, .int .u64 (a.m : Int)]] (wr.alloc (.cells #[.int .i64 a.k, .int .i64 a.f, .int .u64 (a.m : Int)] 64)) fun e w' => e = .returned (.tuple #[]) ∧ WrTo w w' w0.heap.size wb g (bs ++ (eU n ++ (l.take (k + 1)).flatMap eSp))) := hide fun k wr hk HW => by
    obtain ⟨g1, cap1, k1, k2⟩ := HW
    have G0 : G w0 wr := Below.trans h0 (k2.below h0.size h.hB h.gB)
    rcases hr.2.2.2 with hz | ⟨b, off, e, hb, hc⟩
    · omega
    obtain ⟨a, ha⟩ : ∃ a, l[k]? = some a := ⟨l[k]'(by omega), List.getElem?_eq_getElem _⟩
    obtain ⟨cs, ecs, hcs⟩ := hc k a ha
    have ecs : cs = [.int .i64 a.k, .int .i64 a.f, .int .u64 (a.m : Int)] := ecs
    subst ecs
    have hl := flat_take_len eSp l k
    have hl2 : (eU n).length + ((l.take k).flatMap eSp).length + (eSp a).length ≤ (eL eSp l).length := by
      have h3 := flat_take_len eSp l (k + 1)
      rw [flat_take eSp l k a ha, List.length_append] at h3
      omega
    refine ⟨b, off, a, e, (by have h4 := hcs 0 _ rfl; change w0.cell? ⟨b, off + k * 3, none⟩ = _ at h4; exact G0.cell h4), (by have h4 := hcs 1 _ rfl; change w0.cell? ⟨b, off + k * 3 + 1, none⟩ = _ at h4; exact G0.cell h4), (by have h4 := hcs 2 _ rfl; change w0.cell? ⟨b, off + k * 3 + 2, none⟩ = _ at h4; exact G0.cell h4), ?_⟩
    refine (w_shape (wr.alloc (.cells #[.int .i64 a.k, .int .i64 a.f, .int .u64 (a.m : Int)] 64)) w0.heap.size wb g1 cap1 a _ (k1.g (G.alloc wr _)) (hv a (List.mem_of_getElem? ha)) (by rw [List.length_append, List.length_append]; omega) (Nat.le_trans G0.size (G.alloc wr _).size)).mono ?_
    rintro e' w2 ⟨rfl, F⟩
    refine ⟨rfl, ?_⟩
    rw [flat_take eSp l k a ha, ← List.append_assoc, ← List.append_assoc, List.append_assoc bs]
    exact WrTo.trans (k2.trans (Tw.of_G wb g1 (G.alloc wr _))) F
  clear h hr hv hn h0 hel hln hmax hoU
  go_enter Tryd.func19, Tryd.ntmps19
  go_wp2_with fail
  refine (unhide N).mono ?_
  rintro e w1 ⟨rfl, F⟩
  have ST : Hid (WrTo w w1 w0.heap.size wb g (bs ++ (eU n ++ (l.take 0).flatMap eSp))) := by
    rw [List.take_zero, List.flatMap_nil, List.append_nil]
    exact hide F
  clear F N
  go_wp2_with fail
  go_loopw [15] (fun i wr => ∃ k : Nat, k ≤ n ∧ i = .int .i64 k ∧ Hid (WrTo w wr w0.heap.size wb g (bs ++ (eU n ++ (l.take k).flatMap eSp)))) (fun i _ => n - (intOf i).toNat)
  case atStart => exact ⟨0, Nat.zero_le _, rfl, ST⟩
  case round =>
    obtain ⟨k, hk, rfl, HW⟩ := hrel
    by_cases hlt : k < n
    · obtain ⟨b, off, a, rfl, hc0, hc1, hc2, C⟩ := unhide RD k wr hlt (unhide HW)
      replace C := hide C
      clear HW
      go_wp2_with fail
      refine (unhide C).mono ?_
      rintro e w2 ⟨rfl, F⟩
      replace F := hide F
      clear C
      go_wp2_with fail
      go_roundw
      case rel => exact ⟨k + 1, by omega, by go_num, F⟩
      case measure => simp [intOf]; omega
    · obtain rfl : k = n := by omega
      have F : Hid (WrTo w wr w0.heap.size wb g (bs ++ eL eSp l)) := by rw [← unhide FI]; exact HW
      clear HW
      go_wp2_with fail
      go_end0
      exact ⟨rfl, unhide F⟩

set_option maxHeartbeats 1000000 in
theorem wl_bool (w0 w : World) (wb g cap : Nat) (ao : Option Addr) (n c : Nat) (l : List Bool) (bs : List Int) (h0 : G w0 w) (h : WrAt w w0.heap.size wb g cap bs) (hr : RowAt elB w0 ao n c l) (hv : ∀ a ∈ l, oB a) (hn : bs.length + (eL eB l).length ≤ 20000000) :
    Calls Tryd.prog 21 #[.pointer (some ⟨wb, 0, none⟩), .slice ao n c, .func (.func 22) #[] #[]] w fun e w' => e = .returned (.tuple #[]) ∧ WrTo w w' w0.heap.size wb g (bs ++ eL eB l) := by
  have hln := hr.1
  have hmax := hr.2.1
  have hel : (eL eB l).length = (eU n).length + (l.flatMap eB).length := by unfold eL; rw [List.length_append, hln]
  have hmx : n ≤ 20000000 := by have := flat_len cB l hv; omega
  have hoU : oU n := by unfold oU; omega
  have N := hide (w_number w w0.heap.size wb g cap n bs h hoU (by omega) h0.size)
  have FI : Hid (bs ++ (eU n ++ (l.take n).flatMap eB) = bs ++ eL eB l) := by
    unfold eL
    rw [hln, List.take_of_length_le (by omega)]
    exact hide rfl
  have RD : Hid (∀ (k : Nat) (wr : World), k < n → WrTo w wr w0.heap.size wb g (bs ++ (eU n ++ (l.take k).flatMap eB)) → ∃ (b off : Nat) (a : Bool), ao = some ⟨b, off, none⟩ ∧ wr.cell? ⟨b, off + k, none⟩ = some (.bool a) ∧
      Calls Tryd.prog 22 #[.pointer (some ⟨wb, 0, none⟩), .bool a] wr fun e w' => e = .returned (.tuple #[]) ∧ WrTo w w' w0.heap.size wb g (bs ++ (eU n ++ (l.take (k + 1)).flatMap eB))) := hide fun k wr hk HW => by
    obtain ⟨g1, cap1, k1, k2⟩ := HW
    have G0 : G w0 wr := Below.trans h0 (k2.below h0.size h.hB h.gB)
    rcases hr.2.2.2 with hz | ⟨b, off, e, hb, hc⟩
    · omega
    obtain ⟨a, ha⟩ : ∃ a, l[k]? = some a := ⟨l[k]'(by omega), List.getElem?_eq_getElem _⟩
    obtain ⟨cs, ecs, hcs⟩ := hc k a ha
    have ecs : cs = [.bool a] := ecs
    subst ecs
    have hl := flat_take_len eB l k
    have hl2 : (eU n).length + ((l.take k).flatMap eB).length + (eB a).length ≤ (eL eB l).length := by
      have h3 := flat_take_len eB l (k + 1)
      rw [flat_take eB l k a ha, List.length_append] at h3
      omega
    refine ⟨b, off, a, e, (by have h4 := hcs 0 _ rfl; change w0.cell? ⟨b, off + k * 1, none⟩ = _ at h4; rw [Nat.mul_one] at h4; exact G0.cell h4), ?_⟩
    refine (w_truth wr w0.heap.size wb g1 cap1 a _ (k1.g (G.refl wr)) (by rw [List.length_append, List.length_append]; omega) (Nat.le_trans G0.size (G.refl wr).size)).mono ?_
    rintro e' w2 ⟨rfl, F⟩
    refine ⟨rfl, ?_⟩
    rw [flat_take eB l k a ha, ← List.append_assoc, ← List.append_assoc, List.append_assoc bs]
    exact WrTo.trans (k2.trans (Tw.of_G wb g1 (G.refl wr))) F
  clear h hr hv hn h0 hel hln hmax hoU
  go_enter Tryd.func21, Tryd.ntmps21
  go_wp2_with fail
  refine (unhide N).mono ?_
  rintro e w1 ⟨rfl, F⟩
  have ST : Hid (WrTo w w1 w0.heap.size wb g (bs ++ (eU n ++ (l.take 0).flatMap eB))) := by
    rw [List.take_zero, List.flatMap_nil, List.append_nil]
    exact hide F
  clear F N
  go_wp2_with fail
  go_loopw [15] (fun i wr => ∃ k : Nat, k ≤ n ∧ i = .int .i64 k ∧ Hid (WrTo w wr w0.heap.size wb g (bs ++ (eU n ++ (l.take k).flatMap eB)))) (fun i _ => n - (intOf i).toNat)
  case atStart => exact ⟨0, Nat.zero_le _, rfl, ST⟩
  case round =>
    obtain ⟨k, hk, rfl, HW⟩ := hrel
    by_cases hlt : k < n
    · obtain ⟨b, off, a, rfl, hc0, C⟩ := unhide RD k wr hlt (unhide HW)
      replace C := hide C
      clear HW
      go_wp2_with fail
      refine (unhide C).mono ?_
      rintro e w2 ⟨rfl, F⟩
      replace F := hide F
      clear C
      go_wp2_with fail
      go_roundw
      case rel => exact ⟨k + 1, by omega, by go_num, F⟩
      case measure => simp [intOf]; omega
    · obtain rfl : k = n := by omega
      have F : Hid (WrTo w wr w0.heap.size wb g (bs ++ eL eB l)) := by rw [← unhide FI]; exact HW
      clear HW
      go_wp2_with fail
      go_end0
      exact ⟨rfl, unhide F⟩

set_option maxHeartbeats 1000000 in
theorem wl_int64 (w0 w : World) (wb g cap : Nat) (ao : Option Addr) (n c : Nat) (l : List Int) (bs : List Int) (h0 : G w0 w) (h : WrAt w w0.heap.size wb g cap bs) (hr : RowAt elI w0 ao n c l) (hv : ∀ a ∈ l, oI a) (hn : bs.length + (eL eI l).length ≤ 20000000) :
    Calls Tryd.prog 23 #[.pointer (some ⟨wb, 0, none⟩), .slice ao n c, .func (.func 24) #[] #[]] w fun e w' => e = .returned (.tuple #[]) ∧ WrTo w w' w0.heap.size wb g (bs ++ eL eI l) := by
  have hln := hr.1
  have hmax := hr.2.1
  have hel : (eL eI l).length = (eU n).length + (l.flatMap eI).length := by unfold eL; rw [List.length_append, hln]
  have hmx : n ≤ 20000000 := by have := flat_len cI l hv; omega
  have hoU : oU n := by unfold oU; omega
  have N := hide (w_number w w0.heap.size wb g cap n bs h hoU (by omega) h0.size)
  have FI : Hid (bs ++ (eU n ++ (l.take n).flatMap eI) = bs ++ eL eI l) := by
    unfold eL
    rw [hln, List.take_of_length_le (by omega)]
    exact hide rfl
  have RD : Hid (∀ (k : Nat) (wr : World), k < n → WrTo w wr w0.heap.size wb g (bs ++ (eU n ++ (l.take k).flatMap eI)) → ∃ (b off : Nat) (a : Int), ao = some ⟨b, off, none⟩ ∧ wr.cell? ⟨b, off + k, none⟩ = some (.int .i64 a) ∧
      Calls Tryd.prog 24 #[.pointer (some ⟨wb, 0, none⟩), .int .i64 a] wr fun e w' => e = .returned (.tuple #[]) ∧ WrTo w w' w0.heap.size wb g (bs ++ (eU n ++ (l.take (k + 1)).flatMap eI))) := hide fun k wr hk HW => by
    obtain ⟨g1, cap1, k1, k2⟩ := HW
    have G0 : G w0 wr := Below.trans h0 (k2.below h0.size h.hB h.gB)
    rcases hr.2.2.2 with hz | ⟨b, off, e, hb, hc⟩
    · omega
    obtain ⟨a, ha⟩ : ∃ a, l[k]? = some a := ⟨l[k]'(by omega), List.getElem?_eq_getElem _⟩
    obtain ⟨cs, ecs, hcs⟩ := hc k a ha
    have ecs : cs = [.int .i64 a] := ecs
    subst ecs
    have hl := flat_take_len eI l k
    have hl2 : (eU n).length + ((l.take k).flatMap eI).length + (eI a).length ≤ (eL eI l).length := by
      have h3 := flat_take_len eI l (k + 1)
      rw [flat_take eI l k a ha, List.length_append] at h3
      omega
    refine ⟨b, off, a, e, (by have h4 := hcs 0 _ rfl; change w0.cell? ⟨b, off + k * 1, none⟩ = _ at h4; rw [Nat.mul_one] at h4; exact G0.cell h4), ?_⟩
    refine (w_signed wr w0.heap.size wb g1 cap1 a _ (k1.g (G.refl wr)) (hv a (List.mem_of_getElem? ha)) (by rw [List.length_append, List.length_append]; omega) (Nat.le_trans G0.size (G.refl wr).size)).mono ?_
    rintro e' w2 ⟨rfl, F⟩
    refine ⟨rfl, ?_⟩
    rw [flat_take eI l k a ha, ← List.append_assoc, ← List.append_assoc, List.append_assoc bs]
    exact WrTo.trans (k2.trans (Tw.of_G wb g1 (G.refl wr))) F
  clear h hr hv hn h0 hel hln hmax hoU
  go_enter Tryd.func23, Tryd.ntmps23
  go_wp2_with fail
  refine (unhide N).mono ?_
  rintro e w1 ⟨rfl, F⟩
  have ST : Hid (WrTo w w1 w0.heap.size wb g (bs ++ (eU n ++ (l.take 0).flatMap eI))) := by
    rw [List.take_zero, List.flatMap_nil, List.append_nil]
    exact hide F
  clear F N
  go_wp2_with fail
  go_loopw [15] (fun i wr => ∃ k : Nat, k ≤ n ∧ i = .int .i64 k ∧ Hid (WrTo w wr w0.heap.size wb g (bs ++ (eU n ++ (l.take k).flatMap eI)))) (fun i _ => n - (intOf i).toNat)
  case atStart => exact ⟨0, Nat.zero_le _, rfl, ST⟩
  case round =>
    obtain ⟨k, hk, rfl, HW⟩ := hrel
    by_cases hlt : k < n
    · obtain ⟨b, off, a, rfl, hc0, C⟩ := unhide RD k wr hlt (unhide HW)
      replace C := hide C
      clear HW
      go_wp2_with fail
      refine (unhide C).mono ?_
      rintro e w2 ⟨rfl, F⟩
      replace F := hide F
      clear C
      go_wp2_with fail
      go_roundw
      case rel => exact ⟨k + 1, by omega, by go_num, F⟩
      case measure => simp [intOf]; omega
    · obtain rfl : k = n := by omega
      have F : Hid (WrTo w wr w0.heap.size wb g (bs ++ eL eI l)) := by rw [← unhide FI]; exact HW
      clear HW
      go_wp2_with fail
      go_end0
      exact ⟨rfl, unhide F⟩

set_option maxHeartbeats 1000000 in
theorem wl_uint64 (w0 w : World) (wb g cap : Nat) (ao : Option Addr) (n c : Nat) (l : List Nat) (bs : List Int) (h0 : G w0 w) (h : WrAt w w0.heap.size wb g cap bs) (hr : RowAt elU w0 ao n c l) (hv : ∀ a ∈ l, oU a) (hn : bs.length + (eL eU l).length ≤ 20000000) :
    Calls Tryd.prog 56 #[.pointer (some ⟨wb, 0, none⟩), .slice ao n c, .func (.func 51) #[] #[]] w fun e w' => e = .returned (.tuple #[]) ∧ WrTo w w' w0.heap.size wb g (bs ++ eL eU l) := by
  have hln := hr.1
  have hmax := hr.2.1
  have hel : (eL eU l).length = (eU n).length + (l.flatMap eU).length := by unfold eL; rw [List.length_append, hln]
  have hmx : n ≤ 20000000 := by have := flat_len cU l hv; omega
  have hoU : oU n := by unfold oU; omega
  have N := hide (w_number w w0.heap.size wb g cap n bs h hoU (by omega) h0.size)
  have FI : Hid (bs ++ (eU n ++ (l.take n).flatMap eU) = bs ++ eL eU l) := by
    unfold eL
    rw [hln, List.take_of_length_le (by omega)]
    exact hide rfl
  have RD : Hid (∀ (k : Nat) (wr : World), k < n → WrTo w wr w0.heap.size wb g (bs ++ (eU n ++ (l.take k).flatMap eU)) → ∃ (b off : Nat) (a : Nat), ao = some ⟨b, off, none⟩ ∧ wr.cell? ⟨b, off + k, none⟩ = some (.int .u64 (a : Int)) ∧
      Calls Tryd.prog 51 #[.pointer (some ⟨wb, 0, none⟩), .int .u64 (a : Int)] wr fun e w' => e = .returned (.tuple #[]) ∧ WrTo w w' w0.heap.size wb g (bs ++ (eU n ++ (l.take (k + 1)).flatMap eU))) := hide fun k wr hk HW => by
    obtain ⟨g1, cap1, k1, k2⟩ := HW
    have G0 : G w0 wr := Below.trans h0 (k2.below h0.size h.hB h.gB)
    rcases hr.2.2.2 with hz | ⟨b, off, e, hb, hc⟩
    · omega
    obtain ⟨a, ha⟩ : ∃ a, l[k]? = some a := ⟨l[k]'(by omega), List.getElem?_eq_getElem _⟩
    obtain ⟨cs, ecs, hcs⟩ := hc k a ha
    have ecs : cs = [.int .u64 (a : Int)] := ecs
    subst ecs
    have hl := flat_take_len eU l k
    have hl2 : (eU n).length + ((l.take k).flatMap eU).length + (eU a).length ≤ (eL eU l).length := by
      have h3 := flat_take_len eU l (k + 1)
      rw [flat_take eU l k a ha, List.length_append] at h3
      omega
    refine ⟨b, off, a, e, (by have h4 := hcs 0 _ rfl; change w0.cell? ⟨b, off + k * 1, none⟩ = _ at h4; rw [Nat.mul_one] at h4; exact G0.cell h4), ?_⟩
    refine (w_number wr w0.heap.size wb g1 cap1 a _ (k1.g (G.refl wr)) (hv a (List.mem_of_getElem? ha)) (by rw [List.length_append, List.length_append]; omega) (Nat.le_trans G0.size (G.refl wr).size)).mono ?_
    rintro e' w2 ⟨rfl, F⟩
    refine ⟨rfl, ?_⟩
    rw [flat_take eU l k a ha, ← List.append_assoc, ← List.append_assoc, List.append_assoc bs]
    exact WrTo.trans (k2.trans (Tw.of_G wb g1 (G.refl wr))) F
  clear h hr hv hn h0 hel hln hmax hoU
  go_enter Tryd.func56, Tryd.ntmps56
  go_wp2_with fail
  refine (unhide N).mono ?_
  rintro e w1 ⟨rfl, F⟩
  have ST : Hid (WrTo w w1 w0.heap.size wb g (bs ++ (eU n ++ (l.take 0).flatMap eU))) := by
    rw [List.take_zero, List.flatMap_nil, List.append_nil]
    exact hide F
  clear F N
  go_wp2_with fail
  go_loopw [15] (fun i wr => ∃ k : Nat, k ≤ n ∧ i = .int .i64 k ∧ Hid (WrTo w wr w0.heap.size wb g (bs ++ (eU n ++ (l.take k).flatMap eU)))) (fun i _ => n - (intOf i).toNat)
  case atStart => exact ⟨0, Nat.zero_le _, rfl, ST⟩
  case round =>
    obtain ⟨k, hk, rfl, HW⟩ := hrel
    by_cases hlt : k < n
    · obtain ⟨b, off, a, rfl, hc0, C⟩ := unhide RD k wr hlt (unhide HW)
      replace C := hide C
      clear HW
      go_wp2_with fail
      refine (unhide C).mono ?_
      rintro e w2 ⟨rfl, F⟩
      replace F := hide F
      clear C
      go_wp2_with fail
      go_roundw
      case rel => exact ⟨k + 1, by omega, by go_num, F⟩
      case measure => simp [intOf]; omega
    · obtain rfl : k = n := by omega
      have F : Hid (WrTo w wr w0.heap.size wb g (bs ++ eL eU l)) := by rw [← unhide FI]; exact HW
      clear HW
      go_wp2_with fail
      go_end0
      exact ⟨rfl, unhide F⟩

set_option maxHeartbeats 1000000 in
theorem wl_case (w0 w : World) (wb g cap : Nat) (ao : Option Addr) (n c : Nat) (l : List Ca) (bs : List Int) (h0 : G w0 w) (h : WrAt w w0.heap.size wb g cap bs) (hr : RowAt elCa w0 ao n c l) (hv : ∀ a ∈ l, oCa a) (hn : bs.length + (eL eCa l).length ≤ 20000000) :
    Calls Tryd.prog 25 #[.pointer (some ⟨wb, 0, none⟩), .slice ao n c, .func (.func 26) #[] #[]] w fun e w' => e = .returned (.tuple #[]) ∧ WrTo w w' w0.heap.size wb g (bs ++ eL eCa l) := by
  have hln := hr.1
  have hmax := hr.2.1
  have hel : (eL eCa l).length = (eU n).length + (l.flatMap eCa).length := by unfold eL; rw [List.length_append, hln]
  have hmx : n ≤ 20000000 := by have := flat_len cCa l hv; omega
  have hoU : oU n := by unfold oU; omega
  have N := hide (w_number w w0.heap.size wb g cap n bs h hoU (by omega) h0.size)
  have FI : Hid (bs ++ (eU n ++ (l.take n).flatMap eCa) = bs ++ eL eCa l) := by
    unfold eL
    rw [hln, List.take_of_length_le (by omega)]
    exact hide rfl
  have RD : Hid (∀ (k : Nat) (wr : World), k < n → WrTo w wr w0.heap.size wb g (bs ++ (eU n ++ (l.take k).flatMap eCa)) → ∃ (b off : Nat) (a : Ca), ao = some ⟨b, off, none⟩ ∧ wr.cell? ⟨b, off + k * 4, none⟩ = some (.int .i64 a.k) ∧ wr.cell? ⟨b, off + k * 4 + 1, none⟩ = some (.int .i64 a.c) ∧ wr.cell? ⟨b, off + k * 4 + 2, none⟩ = some (.int .i64 a.v) ∧ wr.cell? ⟨b, off + k * 4 + 3, none⟩ = some (.int .i64 a.t) ∧
      Calls Tryd.prog 26 #[.pointer (some ⟨wb, 0, none⟩), .agg #[.int .i64 a.k, .int .i64 a.c, .int .i64 a.v, .int .i64 a.t]] (wr.alloc (.cells #[.int .i64 a.k, .int .i64 a.c, .int .i64 a.v, .int .i64 a.t] 75)) fun e w' => e = .returned (.tuple #[]) ∧ WrTo w w' w0.heap.size wb g (bs ++ (eU n ++ (l.take (k + 1)).flatMap eCa))) := hide fun k wr hk HW => by
    obtain ⟨g1, cap1, k1, k2⟩ := HW
    have G0 : G w0 wr := Below.trans h0 (k2.below h0.size h.hB h.gB)
    rcases hr.2.2.2 with hz | ⟨b, off, e, hb, hc⟩
    · omega
    obtain ⟨a, ha⟩ : ∃ a, l[k]? = some a := ⟨l[k]'(by omega), List.getElem?_eq_getElem _⟩
    obtain ⟨cs, ecs, hcs⟩ := hc k a ha
    have ecs : cs = [.int .i64 a.k, .int .i64 a.c, .int .i64 a.v, .int .i64 a.t] := ecs
    subst ecs
    have hl := flat_take_len eCa l k
    have hl2 : (eU n).length + ((l.take k).flatMap eCa).length + (eCa a).length ≤ (eL eCa l).length := by
      have h3 := flat_take_len eCa l (k + 1)
      rw [flat_take eCa l k a ha, List.length_append] at h3
      omega
    refine ⟨b, off, a, e, (by have h4 := hcs 0 _ rfl; change w0.cell? ⟨b, off + k * 4, none⟩ = _ at h4; exact G0.cell h4), (by have h4 := hcs 1 _ rfl; change w0.cell? ⟨b, off + k * 4 + 1, none⟩ = _ at h4; exact G0.cell h4), (by have h4 := hcs 2 _ rfl; change w0.cell? ⟨b, off + k * 4 + 2, none⟩ = _ at h4; exact G0.cell h4), (by have h4 := hcs 3 _ rfl; change w0.cell? ⟨b, off + k * 4 + 3, none⟩ = _ at h4; exact G0.cell h4), ?_⟩
    refine (w_choice (wr.alloc (.cells #[.int .i64 a.k, .int .i64 a.c, .int .i64 a.v, .int .i64 a.t] 75)) w0.heap.size wb g1 cap1 a _ (k1.g (G.alloc wr _)) (hv a (List.mem_of_getElem? ha)) (by rw [List.length_append, List.length_append]; omega) (Nat.le_trans G0.size (G.alloc wr _).size)).mono ?_
    rintro e' w2 ⟨rfl, F⟩
    refine ⟨rfl, ?_⟩
    rw [flat_take eCa l k a ha, ← List.append_assoc, ← List.append_assoc, List.append_assoc bs]
    exact WrTo.trans (k2.trans (Tw.of_G wb g1 (G.alloc wr _))) F
  clear h hr hv hn h0 hel hln hmax hoU
  go_enter Tryd.func25, Tryd.ntmps25
  go_wp2_with fail
  refine (unhide N).mono ?_
  rintro e w1 ⟨rfl, F⟩
  have ST : Hid (WrTo w w1 w0.heap.size wb g (bs ++ (eU n ++ (l.take 0).flatMap eCa))) := by
    rw [List.take_zero, List.flatMap_nil, List.append_nil]
    exact hide F
  clear F N
  go_wp2_with fail
  go_loopw [15] (fun i wr => ∃ k : Nat, k ≤ n ∧ i = .int .i64 k ∧ Hid (WrTo w wr w0.heap.size wb g (bs ++ (eU n ++ (l.take k).flatMap eCa)))) (fun i _ => n - (intOf i).toNat)
  case atStart => exact ⟨0, Nat.zero_le _, rfl, ST⟩
  case round =>
    obtain ⟨k, hk, rfl, HW⟩ := hrel
    by_cases hlt : k < n
    · obtain ⟨b, off, a, rfl, hc0, hc1, hc2, hc3, C⟩ := unhide RD k wr hlt (unhide HW)
      replace C := hide C
      clear HW
      go_wp2_with fail
      refine (unhide C).mono ?_
      rintro e w2 ⟨rfl, F⟩
      replace F := hide F
      clear C
      go_wp2_with fail
      go_roundw
      case rel => exact ⟨k + 1, by omega, by go_num, F⟩
      case measure => simp [intOf]; omega
    · obtain rfl : k = n := by omega
      have F : Hid (WrTo w wr w0.heap.size wb g (bs ++ eL eCa l)) := by rw [← unhide FI]; exact HW
      clear HW
      go_wp2_with fail
      go_end0
      exact ⟨rfl, unhide F⟩

set_option maxHeartbeats 1000000 in
theorem wl_instr (w0 w : World) (wb g cap : Nat) (ao : Option Addr) (n c : Nat) (l : List In) (bs : List Int) (h0 : G w0 w) (h : WrAt w w0.heap.size wb g cap bs) (hr : RowAt elIn w0 ao n c l) (hv : ∀ a ∈ l, oIn a) (hn : bs.length + (eL eIn l).length ≤ 20000000) :
    Calls Tryd.prog 54 #[.pointer (some ⟨wb, 0, none⟩), .slice ao n c, .func (.func 55) #[] #[]] w fun e w' => e = .returned (.tuple #[]) ∧ WrTo w w' w0.heap.size wb g (bs ++ eL eIn l) := by
  have hln := hr.1
  have hmax := hr.2.1
  have hel : (eL eIn l).length = (eU n).length + (l.flatMap eIn).length := by unfold eL; rw [List.length_append, hln]
  have hmx : n ≤ 20000000 := by have := flat_len cIn l hv; omega
  have hoU : oU n := by unfold oU; omega
  have N := hide (w_number w w0.heap.size wb g cap n bs h hoU (by omega) h0.size)
  have FI : Hid (bs ++ (eU n ++ (l.take n).flatMap eIn) = bs ++ eL eIn l) := by
    unfold eL
    rw [hln, List.take_of_length_le (by omega)]
    exact hide rfl
  have RD : Hid (∀ (k : Nat) (wr : World), k < n → WrTo w wr w0.heap.size wb g (bs ++ (eU n ++ (l.take k).flatMap eIn)) → ∃ (b off : Nat) (a : In), ao = some ⟨b, off, none⟩ ∧ wr.cell? ⟨b, off + k * 5, none⟩ = some (.int .i64 a.op) ∧ wr.cell? ⟨b, off + k * 5 + 1, none⟩ = some (.int .i64 a.a) ∧ wr.cell? ⟨b, off + k * 5 + 2, none⟩ = some (.int .i64 a.b) ∧ wr.cell? ⟨b, off + k * 5 + 3, none⟩ = some (.int .i64 a.c) ∧ wr.cell? ⟨b, off + k * 5 + 4, none⟩ = some (.int .i64 a.d) ∧
      Calls Tryd.prog 55 #[.pointer (some ⟨wb, 0, none⟩), .agg #[.int .i64 a.op, .int .i64 a.a, .int .i64 a.b, .int .i64 a.c, .int .i64 a.d]] (wr.alloc (.cells #[.int .i64 a.op, .int .i64 a.a, .int .i64 a.b, .int .i64 a.c, .int .i64 a.d] 51)) fun e w' => e = .returned (.tuple #[]) ∧ WrTo w w' w0.heap.size wb g (bs ++ (eU n ++ (l.take (k + 1)).flatMap eIn))) := hide fun k wr hk HW => by
    obtain ⟨g1, cap1, k1, k2⟩ := HW
    have G0 : G w0 wr := Below.trans h0 (k2.below h0.size h.hB h.gB)
    rcases hr.2.2.2 with hz | ⟨b, off, e, hb, hc⟩
    · omega
    obtain ⟨a, ha⟩ : ∃ a, l[k]? = some a := ⟨l[k]'(by omega), List.getElem?_eq_getElem _⟩
    obtain ⟨cs, ecs, hcs⟩ := hc k a ha
    have ecs : cs = [.int .i64 a.op, .int .i64 a.a, .int .i64 a.b, .int .i64 a.c, .int .i64 a.d] := ecs
    subst ecs
    have hl := flat_take_len eIn l k
    have hl2 : (eU n).length + ((l.take k).flatMap eIn).length + (eIn a).length ≤ (eL eIn l).length := by
      have h3 := flat_take_len eIn l (k + 1)
      rw [flat_take eIn l k a ha, List.length_append] at h3
      omega
    refine ⟨b, off, a, e, (by have h4 := hcs 0 _ rfl; change w0.cell? ⟨b, off + k * 5, none⟩ = _ at h4; exact G0.cell h4), (by have h4 := hcs 1 _ rfl; change w0.cell? ⟨b, off + k * 5 + 1, none⟩ = _ at h4; exact G0.cell h4), (by have h4 := hcs 2 _ rfl; change w0.cell? ⟨b, off + k * 5 + 2, none⟩ = _ at h4; exact G0.cell h4), (by have h4 := hcs 3 _ rfl; change w0.cell? ⟨b, off + k * 5 + 3, none⟩ = _ at h4; exact G0.cell h4), (by have h4 := hcs 4 _ rfl; change w0.cell? ⟨b, off + k * 5 + 4, none⟩ = _ at h4; exact G0.cell h4), ?_⟩
    refine (w_instr (wr.alloc (.cells #[.int .i64 a.op, .int .i64 a.a, .int .i64 a.b, .int .i64 a.c, .int .i64 a.d] 51)) w0.heap.size wb g1 cap1 a _ (k1.g (G.alloc wr _)) (hv a (List.mem_of_getElem? ha)) (by rw [List.length_append, List.length_append]; omega) (Nat.le_trans G0.size (G.alloc wr _).size)).mono ?_
    rintro e' w2 ⟨rfl, F⟩
    refine ⟨rfl, ?_⟩
    rw [flat_take eIn l k a ha, ← List.append_assoc, ← List.append_assoc, List.append_assoc bs]
    exact WrTo.trans (k2.trans (Tw.of_G wb g1 (G.alloc wr _))) F
  clear h hr hv hn h0 hel hln hmax hoU
  go_enter Tryd.func54, Tryd.ntmps54
  go_wp2_with fail
  refine (unhide N).mono ?_
  rintro e w1 ⟨rfl, F⟩
  have ST : Hid (WrTo w w1 w0.heap.size wb g (bs ++ (eU n ++ (l.take 0).flatMap eIn))) := by
    rw [List.take_zero, List.flatMap_nil, List.append_nil]
    exact hide F
  clear F N
  go_wp2_with fail
  go_loopw [15] (fun i wr => ∃ k : Nat, k ≤ n ∧ i = .int .i64 k ∧ Hid (WrTo w wr w0.heap.size wb g (bs ++ (eU n ++ (l.take k).flatMap eIn)))) (fun i _ => n - (intOf i).toNat)
  case atStart => exact ⟨0, Nat.zero_le _, rfl, ST⟩
  case round =>
    obtain ⟨k, hk, rfl, HW⟩ := hrel
    by_cases hlt : k < n
    · obtain ⟨b, off, a, rfl, hc0, hc1, hc2, hc3, hc4, C⟩ := unhide RD k wr hlt (unhide HW)
      replace C := hide C
      clear HW
      go_wp2_with fail
      refine (unhide C).mono ?_
      rintro e w2 ⟨rfl, F⟩
      replace F := hide F
      clear C
      go_wp2_with fail
      go_roundw
      case rel => exact ⟨k + 1, by omega, by go_num, F⟩
      case measure => simp [intOf]; omega
    · obtain rfl : k = n := by omega
      have F : Hid (WrTo w wr w0.heap.size wb g (bs ++ eL eIn l)) := by rw [← unhide FI]; exact HW
      clear HW
      go_wp2_with fail
      go_end0
      exact ⟨rfl, unhide F⟩
end Go.Proofs.YtdekhnfncecacaaDoor
