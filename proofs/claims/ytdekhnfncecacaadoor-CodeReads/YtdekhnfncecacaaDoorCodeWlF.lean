/- writeList of package code at its types; a function; a module. -/
import Derived.Test.YtdekhnfncecacaaDoorCodeFn
namespace Go.Proofs.YtdekhnfncecacaaDoor
set_option maxRecDepth 100000
open Go.RowKit Go.Maps Go.ChangeShapes Go.WideShapes Go.ChangeAt Go.Deep

set_option maxHeartbeats 1000000 in
theorem wl_func (w0 w : World) (wb g cap : Nat) (ao : Option Addr) (n c : Nat) (l : List Fn) (bs : List Int) (h0 : G w0 w) (h : WrAt w w0.heap.size wb g cap bs) (hr : RowAt elFn w0 ao n c l) (hv : ∀ a ∈ l, oFn a) (hn : bs.length + (eL eFn l).length ≤ 20000000) :
    Calls Tryd.prog 27 #[.pointer (some ⟨wb, 0, none⟩), .slice ao n c, .func (.func 28) #[] #[]] w fun e w' => e = .returned (.tuple #[]) ∧ WrTo w w' w0.heap.size wb g (bs ++ eL eFn l) := by
  have hln := hr.1
  have hmax := hr.2.1
  have hel : (eL eFn l).length = (eU n).length + (l.flatMap eFn).length := by unfold eL; rw [List.length_append, hln]
  have hmx : n ≤ 20000000 := by have := flat_len cFn l hv; omega
  have hoU : oU n := by unfold oU; omega
  have N := hide (w_number w w0.heap.size wb g cap n bs h hoU (by omega) h0.size)
  have FI : Hid (bs ++ (eU n ++ (l.take n).flatMap eFn) = bs ++ eL eFn l) := by
    unfold eL
    rw [hln, List.take_of_length_le (by omega)]
    exact hide rfl
  have RD : Hid (∀ (k : Nat) (wr : World), k < n → WrTo w wr w0.heap.size wb g (bs ++ (eU n ++ (l.take k).flatMap eFn)) → ∃ (b off : Nat) (a : Fn) (ko : Option Addr) (kc : Nat) (io : Option Addr) (ic : Nat) (mo : Option Addr) (mc : Nat), ao = some ⟨b, off, none⟩ ∧ wr.cell? ⟨b, off + k * 7, none⟩ = some (.int .i64 a.p) ∧ wr.cell? ⟨b, off + k * 7 + 1, none⟩ = some (.int .i64 a.c) ∧ wr.cell? ⟨b, off + k * 7 + 2, none⟩ = some (.int .i64 a.s) ∧ wr.cell? ⟨b, off + k * 7 + 3, none⟩ = some (.int .i64 a.r) ∧ wr.cell? ⟨b, off + k * 7 + 4, none⟩ = some (.slice ko a.ks.length kc) ∧ wr.cell? ⟨b, off + k * 7 + 5, none⟩ = some (.slice io a.is.length ic) ∧ wr.cell? ⟨b, off + k * 7 + 6, none⟩ = some (.slice mo a.ms.length mc) ∧
      Calls Tryd.prog 28 #[.pointer (some ⟨wb, 0, none⟩), .agg #[.int .i64 a.p, .int .i64 a.c, .int .i64 a.s, .int .i64 a.r, .slice ko a.ks.length kc, .slice io a.is.length ic, .slice mo a.ms.length mc]] (wr.alloc (.cells #[.int .i64 a.p, .int .i64 a.c, .int .i64 a.s, .int .i64 a.r, .slice ko a.ks.length kc, .slice io a.is.length ic, .slice mo a.ms.length mc] 57)) fun e w' => e = .returned (.tuple #[]) ∧ WrTo w w' w0.heap.size wb g (bs ++ (eU n ++ (l.take (k + 1)).flatMap eFn))) := hide fun k wr hk HW => by
    obtain ⟨g1, cap1, k1, k2⟩ := HW
    have G0 : G w0 wr := Below.trans h0 (k2.below h0.size h.hB h.gB)
    rcases hr.2.2.2 with hz | ⟨b, off, e, hb, hc⟩
    · omega
    obtain ⟨a, ha⟩ : ∃ a, l[k]? = some a := ⟨l[k]'(by omega), List.getElem?_eq_getElem _⟩
    obtain ⟨cs, ⟨ko, kc, io, ic, mo, mc, ecs, r1, r2, r3⟩, hcs⟩ := hc k a ha
    subst ecs
    have hl := flat_take_len eFn l k
    have hl2 : (eU n).length + ((l.take k).flatMap eFn).length + (eFn a).length ≤ (eL eFn l).length := by
      have h3 := flat_take_len eFn l (k + 1)
      rw [flat_take eFn l k a ha, List.length_append] at h3
      omega
    refine ⟨b, off, a, ko, kc, io, ic, mo, mc, e, (by have h4 := hcs 0 _ rfl; change w0.cell? ⟨b, off + k * 7, none⟩ = _ at h4; exact G0.cell h4), (by have h4 := hcs 1 _ rfl; change w0.cell? ⟨b, off + k * 7 + 1, none⟩ = _ at h4; exact G0.cell h4), (by have h4 := hcs 2 _ rfl; change w0.cell? ⟨b, off + k * 7 + 2, none⟩ = _ at h4; exact G0.cell h4), (by have h4 := hcs 3 _ rfl; change w0.cell? ⟨b, off + k * 7 + 3, none⟩ = _ at h4; exact G0.cell h4), (by have h4 := hcs 4 _ rfl; change w0.cell? ⟨b, off + k * 7 + 4, none⟩ = _ at h4; exact G0.cell h4), (by have h4 := hcs 5 _ rfl; change w0.cell? ⟨b, off + k * 7 + 5, none⟩ = _ at h4; exact G0.cell h4), (by have h4 := hcs 6 _ rfl; change w0.cell? ⟨b, off + k * 7 + 6, none⟩ = _ at h4; exact G0.cell h4), ?_⟩
    refine (w_function w0 (wr.alloc (.cells #[.int .i64 a.p, .int .i64 a.c, .int .i64 a.s, .int .i64 a.r, .slice ko a.ks.length kc, .slice io a.is.length ic, .slice mo a.ms.length mc] 57)) wb g1 cap1 a ko kc io ic mo mc _ (G0.trans (G.alloc wr _)) (k1.g (G.alloc wr _)) r1 r2 r3 (hv a (List.mem_of_getElem? ha)) (by rw [List.length_append, List.length_append]; omega)).mono ?_
    rintro e' w2 ⟨rfl, F⟩
    refine ⟨rfl, ?_⟩
    rw [flat_take eFn l k a ha, ← List.append_assoc, ← List.append_assoc, List.append_assoc bs]
    exact WrTo.trans (k2.trans (Tw.of_G wb g1 (G.alloc wr _))) F
  clear h hr hv hn h0 hel hln hmax hoU
  go_enter Tryd.func27, Tryd.ntmps27
  go_wp2_with fail
  refine (unhide N).mono ?_
  rintro e w1 ⟨rfl, F⟩
  have ST : Hid (WrTo w w1 w0.heap.size wb g (bs ++ (eU n ++ (l.take 0).flatMap eFn))) := by
    rw [List.take_zero, List.flatMap_nil, List.append_nil]
    exact hide F
  clear F N
  go_wp2_with fail
  go_loopw [15] (fun i wr => ∃ k : Nat, k ≤ n ∧ i = .int .i64 k ∧ Hid (WrTo w wr w0.heap.size wb g (bs ++ (eU n ++ (l.take k).flatMap eFn)))) (fun i _ => n - (intOf i).toNat)
  case atStart => exact ⟨0, Nat.zero_le _, rfl, ST⟩
  case round =>
    obtain ⟨k, hk, rfl, HW⟩ := hrel
    by_cases hlt : k < n
    · obtain ⟨b, off, a, ko, kc, io, ic, mo, mc, rfl, hc0, hc1, hc2, hc3, hc4, hc5, hc6, C⟩ := unhide RD k wr hlt (unhide HW)
      replace C := hide C
      clear HW
      go_wp2_with fail
      refine (unhide C).mono ?_
      rintro e w2 ⟨rfl, F⟩
      replace F := hide F
      clear C
      go_wp2_with fail
      go_roundw
      case rel => exact ⟨k + 1, by omega, by go_num, F⟩
      case measure => simp [intOf]; omega
    · obtain rfl : k = n := by omega
      have F : Hid (WrTo w wr w0.heap.size wb g (bs ++ eL eFn l)) := by rw [← unhide FI]; exact HW
      clear HW
      go_wp2_with fail
      go_end0
      exact ⟨rfl, unhide F⟩
end Go.Proofs.YtdekhnfncecacaaDoor
