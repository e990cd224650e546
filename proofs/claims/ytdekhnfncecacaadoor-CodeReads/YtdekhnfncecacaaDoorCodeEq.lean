/- slices.Equal at package code's types. -/
import Derived.Test.YtdekhnfncecacaaDoorCodeMem
import Derived.Laws.StructEq
namespace Go.Proofs.YtdekhnfncecacaaDoor
set_option maxRecDepth 100000
open Go.RowKit Go.Maps Go.ChangeShapes Go.WideShapes Go.ChangeAt Go.Deep

theorem take_next {α : Type} {l l2 : List α} {k : Nat} {a b : α} (h : l.take k = l2.take k) (ha : l[k]? = some a) (hb : l2[k]? = some b) (e : a = b) : l.take (k + 1) = l2.take (k + 1) := by
  rw [List.take_add_one, List.take_add_one, h, ha, hb, e]
theorem differ {α : Type} {l l2 : List α} {k : Nat} {a b : α} (ha : l[k]? = some a) (hb : l2[k]? = some b) (e : ¬ a = b) : ¬ l = l2 := fun h => by
  rw [h, hb] at ha
  exact e (Option.some.inj ha).symm
theorem G.more2 {a b : World} (h : G a b) (k : Nat) : G a (b.drewN k) := h.trans (G.drewN b k)

theorem eqs_shape (x y : Sp) (w : World) : (Op.equalIn 10000 64 (.agg #[.int .i64 x.k, .int .i64 x.f, .int .u64 (x.m : Int)]) (.agg #[.int .i64 y.k, .int .i64 y.f, .int .u64 (y.m : Int)])).run Tryd.prog w = .ok ((x.k == y.k) && (x.f == y.f) && (((x.m : Nat) : Int) == ((y.m : Nat) : Int))) w := by
  have hS : Tryd.prog.underlying 64 = some (.struct (Tryd.prog.fieldsOf 64)) := by kernel_rfl
  have hp : Tryd.prog.stoodInHeld 64 = false := by kernel_rfl
  rw [show (10000 : Nat) = 9999 + 1 from rfl, run_equalIn_struct w 9999 64 _ _ hS hp]
  simp only [Program.fieldsOf, Tryd.underlying64]
  go_simp
  by_cases h0 : x.k = y.k <;> by_cases h1 : x.f = y.f <;> by_cases h2 : ((x.m : Nat) : Int) = ((y.m : Nat) : Int) <;> simp [h0, h1, h2]
theorem eqv_shape (x y : Sp) : (((x.k == y.k) && (x.f == y.f) && (((x.m : Nat) : Int) == ((y.m : Nat) : Int))) = true) ↔ x = y := by
  cases x
  cases y
  simp [and_assoc]
  intros
  omega
set_option maxHeartbeats 1000000 in
theorem eq_shape (w : World) (ao bo : Option Addr) (n c m d : Nat) (l l2 : List Sp) (h1 : RowAt elSp w ao n c l) (h2 : RowAt elSp w bo m d l2) :
    Calls Tryd.prog 37 #[.slice ao n c, .slice bo m d] w fun e w' => ∃ q : Bool, e = .returned (.bool q) ∧ (q = true ↔ l = l2) ∧ G w w' := by
  have hl1 := h1.1
  have hl2 := h2.1
  have hn : n ≤ 9223372036854775807 := h1.2.1
  by_cases hnm : n = m
  · subst hnm
    have RD : Hid (∀ (k : Nat) (wr : World), k < n → G w wr → ∃ (x y : Sp) (b off b2 off2 : Nat), ao = some ⟨b, off, none⟩ ∧ bo = some ⟨b2, off2, none⟩ ∧ l[k]? = some x ∧ l2[k]? = some y ∧ wr.cell? ⟨b, off + k * 3, none⟩ = some (.int .i64 x.k) ∧ wr.cell? ⟨b, off + k * 3 + 1, none⟩ = some (.int .i64 x.f) ∧ wr.cell? ⟨b, off + k * 3 + 2, none⟩ = some (.int .u64 (x.m : Int)) ∧ wr.cell? ⟨b2, off2 + k * 3, none⟩ = some (.int .i64 y.k) ∧ wr.cell? ⟨b2, off2 + k * 3 + 1, none⟩ = some (.int .i64 y.f) ∧ wr.cell? ⟨b2, off2 + k * 3 + 2, none⟩ = some (.int .u64 (y.m : Int))) := hide fun k wr hk hg => by
      rcases h1.2.2.2 with hz | ⟨b, off, e, hb, hc⟩
      · omega
      rcases h2.2.2.2 with hz | ⟨b2, off2, e2, hb2, hc2⟩
      · omega
      obtain ⟨x, hx⟩ : ∃ x, l[k]? = some x := ⟨l[k]'(by omega), List.getElem?_eq_getElem _⟩
      obtain ⟨y, hy⟩ : ∃ y, l2[k]? = some y := ⟨l2[k]'(by omega), List.getElem?_eq_getElem _⟩
      obtain ⟨cs, ecs, hcs⟩ := hc k x hx
      obtain ⟨cs2, ecs2, hcs2⟩ := hc2 k y hy
      have ecs : cs = [.int .i64 x.k, .int .i64 x.f, .int .u64 (x.m : Int)] := ecs
      have ecs2 : cs2 = [.int .i64 y.k, .int .i64 y.f, .int .u64 (y.m : Int)] := ecs2
      subst ecs ecs2
      exact ⟨x, y, b, off, b2, off2, e, e2, hx, hy, (by have h4 := hcs 0 _ rfl; change w.cell? ⟨b, off + k * 3, none⟩ = _ at h4; exact hg.cell h4), (by have h4 := hcs 1 _ rfl; change w.cell? ⟨b, off + k * 3 + 1, none⟩ = _ at h4; exact hg.cell h4), (by have h4 := hcs 2 _ rfl; change w.cell? ⟨b, off + k * 3 + 2, none⟩ = _ at h4; exact hg.cell h4), (by have h4 := hcs2 0 _ rfl; change w.cell? ⟨b2, off2 + k * 3, none⟩ = _ at h4; exact hg.cell h4), (by have h4 := hcs2 1 _ rfl; change w.cell? ⟨b2, off2 + k * 3 + 1, none⟩ = _ at h4; exact hg.cell h4), (by have h4 := hcs2 2 _ rfl; change w.cell? ⟨b2, off2 + k * 3 + 2, none⟩ = _ at h4; exact hg.cell h4)⟩
    have FI := hide (fun (e : l.take n = l2.take n) => (show l = l2 by rw [List.take_of_length_le (by omega), List.take_of_length_le (by omega)] at e; exact e))
    clear h1 h2 hl1 hl2
    go_enter Tryd.func37, Tryd.ntmps37
    go_wp2_with fail
    go_loopw [13] (fun i wr => ∃ k : Nat, k ≤ n ∧ i = .int .i64 k ∧ Hid (l.take k = l2.take k) ∧ Hid (G w wr)) (fun i _ => n - (intOf i).toNat)
    case atStart => exact ⟨0, Nat.zero_le _, rfl, hide rfl, hide (G.refl w)⟩
    case round =>
      obtain ⟨k, hk, rfl, HT, HG⟩ := hrel
      by_cases hlt : k < n
      · obtain ⟨x, y, b, off, b2, off2, rfl, rfl, hx, hy, p0, p1, p2, q0, q1, q2⟩ := unhide RD k wr hlt (unhide HG)
        by_cases exy : x = y
        · have HT2 := hide (take_next (unhide HT) hx hy exy)
          have heq := fun w => eqs_shape x y w
          rw [(eqv_shape x y).2 exy] at heq
          clear exy hx hy HT RD
          go_wp2_with fail
          go_quiet (fail)
          go_wp2_with fail
          go_roundw
          case rel => exact ⟨k + 1, by omega, by go_num, HT2, hide ((unhide HG).more2 _)⟩
          case measure => simp [intOf]; omega
        · have HD := hide (differ hx hy exy)
          have heq := fun w => eqs_shape x y w
          rw [show ((x.k == y.k) && (x.f == y.f) && (((x.m : Nat) : Int) == ((y.m : Nat) : Int))) = false from by simpa using fun h => exy ((eqv_shape x y).1 h)] at heq
          clear exy hx hy HT RD
          go_wp2_with fail
          go_quiet (fail)
          go_wp2_with fail
          go_ret
          exact ⟨false, rfl, ⟨(fun h => by cases h), fun h => absurd h (unhide HD)⟩, (unhide HG).more2 _⟩
      · obtain rfl : k = n := by omega
        have HE := hide (unhide FI (unhide HT))
        clear HT RD FI
        go_wp2_with fail
        go_ret
        exact ⟨true, rfl, ⟨fun _ => unhide HE, fun _ => rfl⟩, unhide HG⟩
  · have HD : Hid (¬ l = l2) := hide fun h => hnm (by rw [← hl1, ← hl2, h])
    have hb : ((n : Int) == (m : Int)) = false := beq_eq_false_iff_ne.2 (by omega)
    clear h1 h2 hl1 hl2
    go_enter Tryd.func37, Tryd.ntmps37
    go_wp2_with fail
    go_ret
    exact ⟨false, rfl, ⟨(fun h => by cases h), fun h => absurd h (unhide HD)⟩, G.refl w⟩

set_option maxHeartbeats 1000000 in
theorem eq_bool (w : World) (ao bo : Option Addr) (n c m d : Nat) (l l2 : List Bool) (h1 : RowAt elB w ao n c l) (h2 : RowAt elB w bo m d l2) :
    Calls Tryd.prog 38 #[.slice ao n c, .slice bo m d] w fun e w' => ∃ q : Bool, e = .returned (.bool q) ∧ (q = true ↔ l = l2) ∧ G w w' := by
  have hl1 := h1.1
  have hl2 := h2.1
  have hn : n ≤ 9223372036854775807 := h1.2.1
  by_cases hnm : n = m
  · subst hnm
    have RD : Hid (∀ (k : Nat) (wr : World), k < n → G w wr → ∃ (x y : Bool) (b off b2 off2 : Nat), ao = some ⟨b, off, none⟩ ∧ bo = some ⟨b2, off2, none⟩ ∧ l[k]? = some x ∧ l2[k]? = some y ∧ wr.cell? ⟨b, off + k, none⟩ = some (.bool x) ∧ wr.cell? ⟨b2, off2 + k, none⟩ = some (.bool y)) := hide fun k wr hk hg => by
      rcases h1.2.2.2 with hz | ⟨b, off, e, hb, hc⟩
      · omega
      rcases h2.2.2.2 with hz | ⟨b2, off2, e2, hb2, hc2⟩
      · omega
      obtain ⟨x, hx⟩ : ∃ x, l[k]? = some x := ⟨l[k]'(by omega), List.getElem?_eq_getElem _⟩
      obtain ⟨y, hy⟩ : ∃ y, l2[k]? = some y := ⟨l2[k]'(by omega), List.getElem?_eq_getElem _⟩
      obtain ⟨cs, ecs, hcs⟩ := hc k x hx
      obtain ⟨cs2, ecs2, hcs2⟩ := hc2 k y hy
      have ecs : cs = [.bool x] := ecs
      have ecs2 : cs2 = [.bool y] := ecs2
      subst ecs ecs2
      exact ⟨x, y, b, off, b2, off2, e, e2, hx, hy, (by have h4 := hcs 0 _ rfl; change w.cell? ⟨b, off + k * 1, none⟩ = _ at h4; rw [Nat.mul_one] at h4; exact hg.cell h4), (by have h4 := hcs2 0 _ rfl; change w.cell? ⟨b2, off2 + k * 1, none⟩ = _ at h4; rw [Nat.mul_one] at h4; exact hg.cell h4)⟩
    have FI := hide (fun (e : l.take n = l2.take n) => (show l = l2 by rw [List.take_of_length_le (by omega), List.take_of_length_le (by omega)] at e; exact e))
    clear h1 h2 hl1 hl2
    go_enter Tryd.func38, Tryd.ntmps38
    go_wp2_with fail
    go_loopw [13] (fun i wr => ∃ k : Nat, k ≤ n ∧ i = .int .i64 k ∧ Hid (l.take k = l2.take k) ∧ Hid (G w wr)) (fun i _ => n - (intOf i).toNat)
    case atStart => exact ⟨0, Nat.zero_le _, rfl, hide rfl, hide (G.refl w)⟩
    case round =>
      obtain ⟨k, hk, rfl, HT, HG⟩ := hrel
      by_cases hlt : k < n
      · obtain ⟨x, y, b, off, b2, off2, rfl, rfl, hx, hy, p0, q0⟩ := unhide RD k wr hlt (unhide HG)
        by_cases exy : x = y
        · have HT2 := hide (take_next (unhide HT) hx hy exy)
          subst exy
          clear hx hy HT RD
          go_wp2_with fail
          go_quiet (fail)
          go_wp2_with fail
          go_roundw
          case rel => exact ⟨k + 1, by omega, by go_num, HT2, hide ((unhide HG).more2 _)⟩
          case measure => simp [intOf]; omega
        · have HD := hide (differ hx hy exy)
          have exb : (x == y) = false := beq_eq_false_iff_ne.2 exy
          clear hx hy HT RD
          go_wp2_with fail
          go_quiet (fail)
          go_wp2_with fail
          go_ret
          exact ⟨false, rfl, ⟨(fun h => by cases h), fun h => absurd h (unhide HD)⟩, (unhide HG).more2 _⟩
      · obtain rfl : k = n := by omega
        have HE := hide (unhide FI (unhide HT))
        clear HT RD FI
        go_wp2_with fail
        go_ret
        exact ⟨true, rfl, ⟨fun _ => unhide HE, fun _ => rfl⟩, unhide HG⟩
  · have HD : Hid (¬ l = l2) := hide fun h => hnm (by rw [← hl1, ← hl2, h])
    have hb : ((n : Int) == (m : Int)) = false := beq_eq_false_iff_ne.2 (by omega)
    clear h1 h2 hl1 hl2
    go_enter Tryd.func38, Tryd.ntmps38
    go_wp2_with fail
    go_ret
    exact ⟨false, rfl, ⟨(fun h => by cases h), fun h => absurd h (unhide HD)⟩, G.refl w⟩

set_option maxHeartbeats 1000000 in
theorem eq_int64 (w : World) (ao bo : Option Addr) (n c m d : Nat) (l l2 : List Int) (h1 : RowAt elI w ao n c l) (h2 : RowAt elI w bo m d l2) :
    Calls Tryd.prog 39 #[.slice ao n c, .slice bo m d] w fun e w' => ∃ q : Bool, e = .returned (.bool q) ∧ (q = true ↔ l = l2) ∧ G w w' := by
  have hl1 := h1.1
  have hl2 := h2.1
  have hn : n ≤ 9223372036854775807 := h1.2.1
  by_cases hnm : n = m
  · subst hnm
    have RD : Hid (∀ (k : Nat) (wr : World), k < n → G w wr → ∃ (x y : Int) (b off b2 off2 : Nat), ao = some ⟨b, off, none⟩ ∧ bo = some ⟨b2, off2, none⟩ ∧ l[k]? = some x ∧ l2[k]? = some y ∧ wr.cell? ⟨b, off + k, none⟩ = some (.int .i64 x) ∧ wr.cell? ⟨b2, off2 + k, none⟩ = some (.int .i64 y)) := hide fun k wr hk hg => by
      rcases h1.2.2.2 with hz | ⟨b, off, e, hb, hc⟩
      · omega
      rcases h2.2.2.2 with hz | ⟨b2, off2, e2, hb2, hc2⟩
      · omega
      obtain ⟨x, hx⟩ : ∃ x, l[k]? = some x := ⟨l[k]'(by omega), List.getElem?_eq_getElem _⟩
      obtain ⟨y, hy⟩ : ∃ y, l2[k]? = some y := ⟨l2[k]'(by omega), List.getElem?_eq_getElem _⟩
      obtain ⟨cs, ecs, hcs⟩ := hc k x hx
      obtain ⟨cs2, ecs2, hcs2⟩ := hc2 k y hy
      have ecs : cs = [.int .i64 x] := ecs
      have ecs2 : cs2 = [.int .i64 y] := ecs2
      subst ecs ecs2
      exact ⟨x, y, b, off, b2, off2, e, e2, hx, hy, (by have h4 := hcs 0 _ rfl; change w.cell? ⟨b, off + k * 1, none⟩ = _ at h4; rw [Nat.mul_one] at h4; exact hg.cell h4), (by have h4 := hcs2 0 _ rfl; change w.cell? ⟨b2, off2 + k * 1, none⟩ = _ at h4; rw [Nat.mul_one] at h4; exact hg.cell h4)⟩
    have FI := hide (fun (e : l.take n = l2.take n) => (show l = l2 by rw [List.take_of_length_le (by omega), List.take_of_length_le (by omega)] at e; exact e))
    clear h1 h2 hl1 hl2
    go_enter Tryd.func39, Tryd.ntmps39
    go_wp2_with fail
    go_loopw [13] (fun i wr => ∃ k : Nat, k ≤ n ∧ i = .int .i64 k ∧ Hid (l.take k = l2.take k) ∧ Hid (G w wr)) (fun i _ => n - (intOf i).toNat)
    case atStart => exact ⟨0, Nat.zero_le _, rfl, hide rfl, hide (G.refl w)⟩
    case round =>
      obtain ⟨k, hk, rfl, HT, HG⟩ := hrel
      by_cases hlt : k < n
      · obtain ⟨x, y, b, off, b2, off2, rfl, rfl, hx, hy, p0, q0⟩ := unhide RD k wr hlt (unhide HG)
        by_cases exy : x = y
        · have HT2 := hide (take_next (unhide HT) hx hy exy)
          subst exy
          clear hx hy HT RD
          go_wp2_with fail
          go_quiet (fail)
          go_wp2_with fail
          go_roundw
          case rel => exact ⟨k + 1, by omega, by go_num, HT2, hide ((unhide HG).more2 _)⟩
          case measure => simp [intOf]; omega
        · have HD := hide (differ hx hy exy)
          have exb : (x == y) = false := beq_eq_false_iff_ne.2 exy
          clear hx hy HT RD
          go_wp2_with fail
          go_quiet (fail)
          go_wp2_with fail
          go_ret
          exact ⟨false, rfl, ⟨(fun h => by cases h), fun h => absurd h (unhide HD)⟩, (unhide HG).more2 _⟩
      · obtain rfl : k = n := by omega
        have HE := hide (unhide FI (unhide HT))
        clear HT RD FI
        go_wp2_with fail
        go_ret
        exact ⟨true, rfl, ⟨fun _ => unhide HE, fun _ => rfl⟩, unhide HG⟩
  · have HD : Hid (¬ l = l2) := hide fun h => hnm (by rw [← hl1, ← hl2, h])
    have hb : ((n : Int) == (m : Int)) = false := beq_eq_false_iff_ne.2 (by omega)
    clear h1 h2 hl1 hl2
    go_enter Tryd.func39, Tryd.ntmps39
    go_wp2_with fail
    go_ret
    exact ⟨false, rfl, ⟨(fun h => by cases h), fun h => absurd h (unhide HD)⟩, G.refl w⟩

set_option maxHeartbeats 1000000 in
theorem eq_uint64 (w : World) (ao bo : Option Addr) (n c m d : Nat) (l l2 : List Nat) (h1 : RowAt elU w ao n c l) (h2 : RowAt elU w bo m d l2) :
    Calls Tryd.prog 71 #[.slice ao n c, .slice bo m d] w fun e w' => ∃ q : Bool, e = .returned (.bool q) ∧ (q = true ↔ l = l2) ∧ G w w' := by
  have hl1 := h1.1
  have hl2 := h2.1
  have hn : n ≤ 9223372036854775807 := h1.2.1
  by_cases hnm : n = m
  · subst hnm
    have RD : Hid (∀ (k : Nat) (wr : World), k < n → G w wr → ∃ (x y : Nat) (b off b2 off2 : Nat), ao = some ⟨b, off, none⟩ ∧ bo = some ⟨b2, off2, none⟩ ∧ l[k]? = some x ∧ l2[k]? = some y ∧ wr.cell? ⟨b, off + k, none⟩ = some (.int .u64 (x : Int)) ∧ wr.cell? ⟨b2, off2 + k, none⟩ = some (.int .u64 (y : Int))) := hide fun k wr hk hg => by
      rcases h1.2.2.2 with hz | ⟨b, off, e, hb, hc⟩
      · omega
      rcases h2.2.2.2 with hz | ⟨b2, off2, e2, hb2, hc2⟩
      · omega
      obtain ⟨x, hx⟩ : ∃ x, l[k]? = some x := ⟨l[k]'(by omega), List.getElem?_eq_getElem _⟩
      obtain ⟨y, hy⟩ : ∃ y, l2[k]? = some y := ⟨l2[k]'(by omega), List.getElem?_eq_getElem _⟩
      obtain ⟨cs, ecs, hcs⟩ := hc k x hx
      obtain ⟨cs2, ecs2, hcs2⟩ := hc2 k y hy
      have ecs : cs = [.int .u64 (x : Int)] := ecs
      have ecs2 : cs2 = [.int .u64 (y : Int)] := ecs2
      subst ecs ecs2
      exact ⟨x, y, b, off, b2, off2, e, e2, hx, hy, (by have h4 := hcs 0 _ rfl; change w.cell? ⟨b, off + k * 1, none⟩ = _ at h4; rw [Nat.mul_one] at h4; exact hg.cell h4), (by have h4 := hcs2 0 _ rfl; change w.cell? ⟨b2, off2 + k * 1, none⟩ = _ at h4; rw [Nat.mul_one] at h4; exact hg.cell h4)⟩
    have FI := hide (fun (e : l.take n = l2.take n) => (show l = l2 by rw [List.take_of_length_le (by omega), List.take_of_length_le (by omega)] at e; exact e))
    clear h1 h2 hl1 hl2
    go_enter Tryd.func71, Tryd.ntmps71
    go_wp2_with fail
    go_loopw [13] (fun i wr => ∃ k : Nat, k ≤ n ∧ i = .int .i64 k ∧ Hid (l.take k = l2.take k) ∧ Hid (G w wr)) (fun i _ => n - (intOf i).toNat)
    case atStart => exact ⟨0, Nat.zero_le _, rfl, hide rfl, hide (G.refl w)⟩
    case round =>
      obtain ⟨k, hk, rfl, HT, HG⟩ := hrel
      by_cases hlt : k < n
      · obtain ⟨x, y, b, off, b2, off2, rfl, rfl, hx, hy, p0, q0⟩ := unhide RD k wr hlt (unhide HG)
        by_cases exy : x = y
        · have HT2 := hide (take_next (unhide HT) hx hy exy)
          subst exy
          clear hx hy HT RD
          go_wp2_with fail
          go_quiet (fail)
          go_wp2_with fail
          go_roundw
          case rel => exact ⟨k + 1, by omega, by go_num, HT2, hide ((unhide HG).more2 _)⟩
          case measure => simp [intOf]; omega
        · have HD := hide (differ hx hy exy)
          have exz : ¬ (x : Int) = (y : Int) := by omega
          have exb : ((x : Int) == (y : Int)) = false := beq_eq_false_iff_ne.2 exz
          have exc : (x == y) = false := beq_eq_false_iff_ne.2 exy
          clear hx hy HT RD
          go_wp2_with fail
          go_quiet (fail)
          go_wp2_with fail
          go_ret
          exact ⟨false, rfl, ⟨(fun h => by cases h), fun h => absurd h (unhide HD)⟩, (unhide HG).more2 _⟩
      · obtain rfl : k = n := by omega
        have HE := hide (unhide FI (unhide HT))
        clear HT RD FI
        go_wp2_with fail
        go_ret
        exact ⟨true, rfl, ⟨fun _ => unhide HE, fun _ => rfl⟩, unhide HG⟩
  · have HD : Hid (¬ l = l2) := hide fun h => hnm (by rw [← hl1, ← hl2, h])
    have hb : ((n : Int) == (m : Int)) = false := beq_eq_false_iff_ne.2 (by omega)
    clear h1 h2 hl1 hl2
    go_enter Tryd.func71, Tryd.ntmps71
    go_wp2_with fail
    go_ret
    exact ⟨false, rfl, ⟨(fun h => by cases h), fun h => absurd h (unhide HD)⟩, G.refl w⟩

theorem eqs_case (x y : Ca) (w : World) : (Op.equalIn 10000 75 (.agg #[.int .i64 x.k, .int .i64 x.c, .int .i64 x.v, .int .i64 x.t]) (.agg #[.int .i64 y.k, .int .i64 y.c, .int .i64 y.v, .int .i64 y.t])).run Tryd.prog w = .ok ((x.k == y.k) && (x.c == y.c) && (x.v == y.v) && (x.t == y.t)) w := by
  have hS : Tryd.prog.underlying 75 = some (.struct (Tryd.prog.fieldsOf 75)) := by kernel_rfl
  have hp : Tryd.prog.stoodInHeld 75 = false := by kernel_rfl
  rw [show (10000 : Nat) = 9999 + 1 from rfl, run_equalIn_struct w 9999 75 _ _ hS hp]
  simp only [Program.fieldsOf, Tryd.underlying75]
  go_simp
  by_cases h0 : x.k = y.k <;> by_cases h1 : x.c = y.c <;> by_cases h2 : x.v = y.v <;> by_cases h3 : x.t = y.t <;> simp [h0, h1, h2, h3]
theorem eqv_case (x y : Ca) : (((x.k == y.k) && (x.c == y.c) && (x.v == y.v) && (x.t == y.t)) = true) ↔ x = y := by
  cases x
  cases y
  simp [and_assoc]
set_option maxHeartbeats 1000000 in
theorem eq_case (w : World) (ao bo : Option Addr) (n c m d : Nat) (l l2 : List Ca) (h1 : RowAt elCa w ao n c l) (h2 : RowAt elCa w bo m d l2) :
    Calls Tryd.prog 40 #[.slice ao n c, .slice bo m d] w fun e w' => ∃ q : Bool, e = .returned (.bool q) ∧ (q = true ↔ l = l2) ∧ G w w' := by
  have hl1 := h1.1
  have hl2 := h2.1
  have hn : n ≤ 9223372036854775807 := h1.2.1
  by_cases hnm : n = m
  · subst hnm
    have RD : Hid (∀ (k : Nat) (wr : World), k < n → G w wr → ∃ (x y : Ca) (b off b2 off2 : Nat), ao = some ⟨b, off, none⟩ ∧ bo = some ⟨b2, off2, none⟩ ∧ l[k]? = some x ∧ l2[k]? = some y ∧ wr.cell? ⟨b, off + k * 4, none⟩ = some (.int .i64 x.k) ∧ wr.cell? ⟨b, off + k * 4 + 1, none⟩ = some (.int .i64 x.c) ∧ wr.cell? ⟨b, off + k * 4 + 2, none⟩ = some (.int .i64 x.v) ∧ wr.cell? ⟨b, off + k * 4 + 3, none⟩ = some (.int .i64 x.t) ∧ wr.cell? ⟨b2, off2 + k * 4, none⟩ = some (.int .i64 y.k) ∧ wr.cell? ⟨b2, off2 + k * 4 + 1, none⟩ = some (.int .i64 y.c) ∧ wr.cell? ⟨b2, off2 + k * 4 + 2, none⟩ = some (.int .i64 y.v) ∧ wr.cell? ⟨b2, off2 + k * 4 + 3, none⟩ = some (.int .i64 y.t)) := hide fun k wr hk hg => by
      rcases h1.2.2.2 with hz | ⟨b, off, e, hb, hc⟩
      · omega
      rcases h2.2.2.2 with hz | ⟨b2, off2, e2, hb2, hc2⟩
      · omega
      obtain ⟨x, hx⟩ : ∃ x, l[k]? = some x := ⟨l[k]'(by omega), List.getElem?_eq_getElem _⟩
      obtain ⟨y, hy⟩ : ∃ y, l2[k]? = some y := ⟨l2[k]'(by omega), List.getElem?_eq_getElem _⟩
      obtain ⟨cs, ecs, hcs⟩ := hc k x hx
      obtain ⟨cs2, ecs2, hcs2⟩ := hc2 k y hy
      have ecs : cs = [.int .i64 x.k, .int .i64 x.c, .int .i64 x.v, .int .i64 x.t] := ecs
      have ecs2 : cs2 = [.int .i64 y.k, .int .i64 y.c, .int .i64 y.v, .int .i64 y.t] := ecs2
      subst ecs ecs2
      exact ⟨x, y, b, off, b2, off2, e, e2, hx, hy, (by have h4 := hcs 0 _ rfl; change w.cell? ⟨b, off + k * 4, none⟩ = _ at h4; exact hg.cell h4), (by have h4 := hcs 1 _ rfl; change w.cell? ⟨b, off + k * 4 + 1, none⟩ = _ at h4; exact hg.cell h4), (by have h4 := hcs 2 _ rfl; change w.cell? ⟨b, off + k * 4 + 2, none⟩ = _ at h4; exact hg.cell h4), (by have h4 := hcs 3 _ rfl; change w.cell? ⟨b, off + k * 4 + 3, none⟩ = _ at h4; exact hg.cell h4), (by have h4 := hcs2 0 _ rfl; change w.cell? ⟨b2, off2 + k * 4, none⟩ = _ at h4; exact hg.cell h4), (by have h4 := hcs2 1 _ rfl; change w.cell? ⟨b2, off2 + k * 4 + 1, none⟩ = _ at h4; exact hg.cell h4), (by have h4 := hcs2 2 _ rfl; change w.cell? ⟨b2, off2 + k * 4 + 2, none⟩ = _ at h4; exact hg.cell h4), (by have h4 := hcs2 3 _ rfl; change w.cell? ⟨b2, off2 + k * 4 + 3, none⟩ = _ at h4; exact hg.cell h4)⟩
    have FI := hide (fun (e : l.take n = l2.take n) => (show l = l2 by rw [List.take_of_length_le (by omega), List.take_of_length_le (by omega)] at e; exact e))
    clear h1 h2 hl1 hl2
    go_enter Tryd.func40, Tryd.ntmps40
    go_wp2_with fail
    go_loopw [13] (fun i wr => ∃ k : Nat, k ≤ n ∧ i = .int .i64 k ∧ Hid (l.take k = l2.take k) ∧ Hid (G w wr)) (fun i _ => n - (intOf i).toNat)
    case atStart => exact ⟨0, Nat.zero_le _, rfl, hide rfl, hide (G.refl w)⟩
    case round =>
      obtain ⟨k, hk, rfl, HT, HG⟩ := hrel
      by_cases hlt : k < n
      · obtain ⟨x, y, b, off, b2, off2, rfl, rfl, hx, hy, p0, p1, p2, p3, q0, q1, q2, q3⟩ := unhide RD k wr hlt (unhide HG)
        by_cases exy : x = y
        · have HT2 := hide (take_next (unhide HT) hx hy exy)
          have heq := fun w => eqs_case x y w
          rw [(eqv_case x y).2 exy] at heq
          clear exy hx hy HT RD
          go_wp2_with fail
          go_quiet (fail)
          go_wp2_with fail
          go_roundw
          case rel => exact ⟨k + 1, by omega, by go_num, HT2, hide ((unhide HG).more2 _)⟩
          case measure => simp [intOf]; omega
        · have HD := hide (differ hx hy exy)
          have heq := fun w => eqs_case x y w
          rw [show ((x.k == y.k) && (x.c == y.c) && (x.v == y.v) && (x.t == y.t)) = false from by simpa using fun h => exy ((eqv_case x y).1 h)] at heq
          clear exy hx hy HT RD
          go_wp2_with fail
          go_quiet (fail)
          go_wp2_with fail
          go_ret
          exact ⟨false, rfl, ⟨(fun h => by cases h), fun h => absurd h (unhide HD)⟩, (unhide HG).more2 _⟩
      · obtain rfl : k = n := by omega
        have HE := hide (unhide FI (unhide HT))
        clear HT RD FI
        go_wp2_with fail
        go_ret
        exact ⟨true, rfl, ⟨fun _ => unhide HE, fun _ => rfl⟩, unhide HG⟩
  · have HD : Hid (¬ l = l2) := hide fun h => hnm (by rw [← hl1, ← hl2, h])
    have hb : ((n : Int) == (m : Int)) = false := beq_eq_false_iff_ne.2 (by omega)
    clear h1 h2 hl1 hl2
    go_enter Tryd.func40, Tryd.ntmps40
    go_wp2_with fail
    go_ret
    exact ⟨false, rfl, ⟨(fun h => by cases h), fun h => absurd h (unhide HD)⟩, G.refl w⟩

theorem eqs_instr (x y : In) (w : World) : (Op.equalIn 10000 51 (.agg #[.int .i64 x.op, .int .i64 x.a, .int .i64 x.b, .int .i64 x.c, .int .i64 x.d]) (.agg #[.int .i64 y.op, .int .i64 y.a, .int .i64 y.b, .int .i64 y.c, .int .i64 y.d])).run Tryd.prog w = .ok ((x.op == y.op) && (x.a == y.a) && (x.b == y.b) && (x.c == y.c) && (x.d == y.d)) w := by
  have hS : Tryd.prog.underlying 51 = some (.struct (Tryd.prog.fieldsOf 51)) := by kernel_rfl
  have hp : Tryd.prog.stoodInHeld 51 = false := by kernel_rfl
  rw [show (10000 : Nat) = 9999 + 1 from rfl, run_equalIn_struct w 9999 51 _ _ hS hp]
  simp only [Program.fieldsOf, Tryd.underlying51]
  go_simp
  by_cases h0 : x.op = y.op <;> by_cases h1 : x.a = y.a <;> by_cases h2 : x.b = y.b <;> by_cases h3 : x.c = y.c <;> by_cases h4 : x.d = y.d <;> simp [h0, h1, h2, h3, h4]
theorem eqv_instr (x y : In) : (((x.op == y.op) && (x.a == y.a) && (x.b == y.b) && (x.c == y.c) && (x.d == y.d)) = true) ↔ x = y := by
  cases x
  cases y
  simp [and_assoc]
set_option maxHeartbeats 1000000 in
theorem eq_instr (w : World) (ao bo : Option Addr) (n c m d : Nat) (l l2 : List In) (h1 : RowAt elIn w ao n c l) (h2 : RowAt elIn w bo m d l2) :
    Calls Tryd.prog 70 #[.slice ao n c, .slice bo m d] w fun e w' => ∃ q : Bool, e = .returned (.bool q) ∧ (q = true ↔ l = l2) ∧ G w w' := by
  have hl1 := h1.1
  have hl2 := h2.1
  have hn : n ≤ 9223372036854775807 := h1.2.1
  by_cases hnm : n = m
  · subst hnm
    have RD : Hid (∀ (k : Nat) (wr : World), k < n → G w wr → ∃ (x y : In) (b off b2 off2 : Nat), ao = some ⟨b, off, none⟩ ∧ bo = some ⟨b2, off2, none⟩ ∧ l[k]? = some x ∧ l2[k]? = some y ∧ wr.cell? ⟨b, off + k * 5, none⟩ = some (.int .i64 x.op) ∧ wr.cell? ⟨b, off + k * 5 + 1, none⟩ = some (.int .i64 x.a) ∧ wr.cell? ⟨b, off + k * 5 + 2, none⟩ = some (.int .i64 x.b) ∧ wr.cell? ⟨b, off + k * 5 + 3, none⟩ = some (.int .i64 x.c) ∧ wr.cell? ⟨b, off + k * 5 + 4, none⟩ = some (.int .i64 x.d) ∧ wr.cell? ⟨b2, off2 + k * 5, none⟩ = some (.int .i64 y.op) ∧ wr.cell? ⟨b2, off2 + k * 5 + 1, none⟩ = some (.int .i64 y.a) ∧ wr.cell? ⟨b2, off2 + k * 5 + 2, none⟩ = some (.int .i64 y.b) ∧ wr.cell? ⟨b2, off2 + k * 5 + 3, none⟩ = some (.int .i64 y.c) ∧ wr.cell? ⟨b2, off2 + k * 5 + 4, none⟩ = some (.int .i64 y.d)) := hide fun k wr hk hg => by
      rcases h1.2.2.2 with hz | ⟨b, off, e, hb, hc⟩
      · omega
      rcases h2.2.2.2 with hz | ⟨b2, off2, e2, hb2, hc2⟩
      · omega
      obtain ⟨x, hx⟩ : ∃ x, l[k]? = some x := ⟨l[k]'(by omega), List.getElem?_eq_getElem _⟩
      obtain ⟨y, hy⟩ : ∃ y, l2[k]? = some y := ⟨l2[k]'(by omega), List.getElem?_eq_getElem _⟩
      obtain ⟨cs, ecs, hcs⟩ := hc k x hx
      obtain ⟨cs2, ecs2, hcs2⟩ := hc2 k y hy
      have ecs : cs = [.int .i64 x.op, .int .i64 x.a, .int .i64 x.b, .int .i64 x.c, .int .i64 x.d] := ecs
      have ecs2 : cs2 = [.int .i64 y.op, .int .i64 y.a, .int .i64 y.b, .int .i64 y.c, .int .i64 y.d] := ecs2
      subst ecs ecs2
      exact ⟨x, y, b, off, b2, off2, e, e2, hx, hy, (by have h4 := hcs 0 _ rfl; change w.cell? ⟨b, off + k * 5, none⟩ = _ at h4; exact hg.cell h4), (by have h4 := hcs 1 _ rfl; change w.cell? ⟨b, off + k * 5 + 1, none⟩ = _ at h4; exact hg.cell h4), (by have h4 := hcs 2 _ rfl; change w.cell? ⟨b, off + k * 5 + 2, none⟩ = _ at h4; exact hg.cell h4), (by have h4 := hcs 3 _ rfl; change w.cell? ⟨b, off + k * 5 + 3, none⟩ = _ at h4; exact hg.cell h4), (by have h4 := hcs 4 _ rfl; change w.cell? ⟨b, off + k * 5 + 4, none⟩ = _ at h4; exact hg.cell h4), (by have h4 := hcs2 0 _ rfl; change w.cell? ⟨b2, off2 + k * 5, none⟩ = _ at h4; exact hg.cell h4), (by have h4 := hcs2 1 _ rfl; change w.cell? ⟨b2, off2 + k * 5 + 1, none⟩ = _ at h4; exact hg.cell h4), (by have h4 := hcs2 2 _ rfl; change w.cell? ⟨b2, off2 + k * 5 + 2, none⟩ = _ at h4; exact hg.cell h4), (by have h4 := hcs2 3 _ rfl; change w.cell? ⟨b2, off2 + k * 5 + 3, none⟩ = _ at h4; exact hg.cell h4), (by have h4 := hcs2 4 _ rfl; change w.cell? ⟨b2, off2 + k * 5 + 4, none⟩ = _ at h4; exact hg.cell h4)⟩
    have FI := hide (fun (e : l.take n = l2.take n) => (show l = l2 by rw [List.take_of_length_le (by omega), List.take_of_length_le (by omega)] at e; exact e))
    clear h1 h2 hl1 hl2
    go_enter Tryd.func70, Tryd.ntmps70
    go_wp2_with fail
    go_loopw [13] (fun i wr => ∃ k : Nat, k ≤ n ∧ i = .int .i64 k ∧ Hid (l.take k = l2.take k) ∧ Hid (G w wr)) (fun i _ => n - (intOf i).toNat)
    case atStart => exact ⟨0, Nat.zero_le _, rfl, hide rfl, hide (G.refl w)⟩
    case round =>
      obtain ⟨k, hk, rfl, HT, HG⟩ := hrel
      by_cases hlt : k < n
      · obtain ⟨x, y, b, off, b2, off2, rfl, rfl, hx, hy, p0, p1, p2, p3, p4, q0, q1, q2, q3, q4⟩ := unhide RD k wr hlt (unhide HG)
        by_cases exy : x = y
        · have HT2 := hide (take_next (unhide HT) hx hy exy)
          have heq := fun w => eqs_instr x y w
          rw [(eqv_instr x y).2 exy] at heq
          clear exy hx hy HT RD
          go_wp2_with fail
          go_quiet (fail)
          go_wp2_with fail
          go_roundw
          case rel => exact ⟨k + 1, by omega, by go_num, HT2, hide ((unhide HG).more2 _)⟩
          case measure => simp [intOf]; omega
        · have HD := hide (differ hx hy exy)
          have heq := fun w => eqs_instr x y w
          rw [show ((x.op == y.op) && (x.a == y.a) && (x.b == y.b) && (x.c == y.c) && (x.d == y.d)) = false from by simpa using fun h => exy ((eqv_instr x y).1 h)] at heq
          clear exy hx hy HT RD
          go_wp2_with fail
          go_quiet (fail)
          go_wp2_with fail
          go_ret
          exact ⟨false, rfl, ⟨(fun h => by cases h), fun h => absurd h (unhide HD)⟩, (unhide HG).more2 _⟩
      · obtain rfl : k = n := by omega
        have HE := hide (unhide FI (unhide HT))
        clear HT RD FI
        go_wp2_with fail
        go_ret
        exact ⟨true, rfl, ⟨fun _ => unhide HE, fun _ => rfl⟩, unhide HG⟩
  · have HD : Hid (¬ l = l2) := hide fun h => hnm (by rw [← hl1, ← hl2, h])
    have hb : ((n : Int) == (m : Int)) = false := beq_eq_false_iff_ne.2 (by omega)
    clear h1 h2 hl1 hl2
    go_enter Tryd.func70, Tryd.ntmps70
    go_wp2_with fail
    go_ret
    exact ⟨false, rfl, ⟨(fun h => by cases h), fun h => absurd h (unhide HD)⟩, G.refl w⟩

end Go.Proofs.YtdekhnfncecacaaDoor
