/- Show of package code. -/
import Derived.Test.YtdekhnfncecacaaDoorCodeItoa
import Derived.Lib.ItoaLen
namespace Go.Proofs.YtdekhnfncecacaaDoor
set_option maxRecDepth 100000
open Go.RowKit Go.Maps Go.ChangeShapes Go.WideShapes Go.ChangeAt Go.Deep

theorem ba_append (a b : List UInt8) : ((⟨a.toArray⟩ : ByteArray) ++ ⟨b.toArray⟩) = ⟨(a ++ b).toArray⟩ := by
  apply ByteArray.ext
  simp
/-- The operands' words. -/
def opsP (vs : List Int) : List UInt8 := vs.flatMap fun v => 32 :: Lib.itoa v
/-- What Show tells. -/
def showP (i : In) : List UInt8 := (rwOf i.op).nm ++ opsP ([i.a, i.b, i.c, i.d].take (rwOf i.op).ops)
theorem ops_all : ∀ r ∈ rowsP, r.ops ≤ 4 := by decide
theorem ops_le (op : Int) : (rwOf op).ops ≤ 4 := by
  unfold rwOf
  split
  · rw [List.getD_eq_getElem?_getD]
    cases h : rowsP[op.toNat]? with
    | none => decide
    | some r => exact ops_all r (List.mem_of_getElem? h)
  · decide
theorem ops_next (vs : List Int) (k : Nat) (v : Int) (h : vs[k]? = some v) : opsP (vs.take (k + 1)) = opsP (vs.take k) ++ (32 :: Lib.itoa v) := by
  unfold opsP
  rw [List.take_add_one, h]
  simp

theorem nm_all : ∀ r ∈ rowsP, r.nm.length ≤ 10 := by decide
theorem nm_le (op : Int) : (rwOf op).nm.length ≤ 10 := by
  unfold rwOf
  split
  · rw [List.getD_eq_getElem?_getD]
    cases h : rowsP[op.toNat]? with
    | none => decide
    | some r => exact nm_all r (List.mem_of_getElem? h)
  · decide
theorem ops_len : ∀ vs : List Int, (∀ v ∈ vs, oI v) → (opsP vs).length ≤ 22 * vs.length
  | [], _ => by simp [opsP]
  | v :: vs, h => by
    have h1 := ops_len vs (fun x hx => h x (by simp [hx]))
    have h2 := Lib.itoa_length_le v (h v (by simp)).1 (h v (by simp)).2
    unfold opsP at h1 ⊢
    simp only [List.flatMap_cons, List.length_append, List.length_cons]
    omega
theorem sl_arr4 (w : World) (b : Nat) : ∀ n : Nat, n ≤ 4 → (Instr.sliceAt 115 (.pointer (some ⟨b, 0, none⟩)) none (some (.int .i64 (n : Int))) none).run Tryd.prog w = .ok (.slice (some ⟨b, 0, none⟩) n 4) w
  | 0, _ => by kernel_rfl
  | 1, _ => by kernel_rfl
  | 2, _ => by kernel_rfl
  | 3, _ => by kernel_rfl
  | 4, _ => by kernel_rfl
  | n + 5, h => by omega

set_option maxHeartbeats 2000000 in
theorem show_any (w : World) (i : In) (hi : oIn i) (ht : Tab9 w) :
    Calls Tryd.prog 15 #[.agg #[.int .i64 i.op, .int .i64 i.a, .int .i64 i.b, .int .i64 i.c, .int .i64 i.d]] w fun e w' => e = .returned (.string ⟨(showP i).toArray⟩) ∧ G w w' := by
  have hle := ops_le i.op
  have hnm := nm_le i.op
  have RO := hide (fun W (g : G w W) => rowOf_any W i.op (ht.g g).1)
  have IT := hide (fun W (v : Int) (g : G w W) (hv : oI v) => itoa_any v hv W (ht.g g))
  have SH : Hid (showP i = (rwOf i.op).nm ++ opsP ([i.a, i.b, i.c, i.d].take (rwOf i.op).ops)) := hide rfl
  have HI := hide hi
  generalize rwOf i.op = r at *
  obtain ⟨n, hn⟩ : ∃ n, n = r.ops := ⟨_, rfl⟩
  rw [← hn] at hle SH RO
  have SZ : Hid (∀ k, k ≤ 4 → (⟨(r.nm ++ opsP ([i.a, i.b, i.c, i.d].take k)).toArray⟩ : ByteArray).size ≤ 1000) := hide fun k hk => by
    have h1 := ops_len ([i.a, i.b, i.c, i.d].take k) (fun v hv => by
      have hm := List.mem_of_mem_take hv
      obtain ⟨o0, o1, o2, o3, o4⟩ := hi
      simp at hm
      rcases hm with rfl | rfl | rfl | rfl
      · exact o1
      · exact o2
      · exact o3
      · exact o4)
    have h2 : ([i.a, i.b, i.c, i.d].take k).length ≤ 4 := by simp; omega
    show (r.nm ++ opsP ([i.a, i.b, i.c, i.d].take k)).toArray.size ≤ 1000
    simp only [List.size_toArray, List.length_append]
    omega
  clear hn hi hnm
  go_enter Tryd.func15, Tryd.ntmps15
  go_wp2_with fail
  refine (unhide RO _ ?_).mono ?_
  · exact (G.refl w).more _
  rintro e w1 ⟨rfl, hg⟩
  have g1 : G w w1 := ((G.refl w).more _).trans hg
  have c0 := hg.cell (x := ⟨w.heap.size, 0, none⟩) (v := .int .i64 i.op) (by simp [go_sem])
  have c1 := hg.cell (x := ⟨w.heap.size, 1, none⟩) (v := .int .i64 i.a) (by simp [go_sem])
  have c2 := hg.cell (x := ⟨w.heap.size, 2, none⟩) (v := .int .i64 i.b) (by simp [go_sem])
  have c3 := hg.cell (x := ⟨w.heap.size, 3, none⟩) (v := .int .i64 i.c) (by simp [go_sem])
  have c4 := hg.cell (x := ⟨w.heap.size, 4, none⟩) (v := .int .i64 i.d) (by simp [go_sem])
  have d1 := fun o => (G.alloc w1 o).cell c1
  have d2 := fun o => (G.alloc w1 o).cell c2
  have d3 := fun o => (G.alloc w1 o).cell c3
  have d4 := fun o => (G.alloc w1 o).cell c4
  replace g1 := hide g1
  clear hg RO
  have hsl := fun w b => sl_arr4 w b n hle
  have AR : Hid (∀ (W : World), G ((w1.alloc (.cells #[.string ⟨r.nm.toArray⟩, .int .i64 (n : Int), .bool r.pt, .bool r.mkr] 113)).alloc (.cells #[.int .i64 i.a, .int .i64 i.b, .int .i64 i.c, .int .i64 i.d] 115)) W → G w W ∧ ∀ (k : Nat) (v : Int), [i.a, i.b, i.c, i.d][k]? = some v → W.cell? ⟨w1.heap.size + 1, k, none⟩ = some (.int .i64 v)) := hide fun W gW => by
    refine ⟨((unhide g1).trans (((G.refl w1).more _).more _)).trans gW, fun k v hk => gW.cell ?_⟩
    match k, hk with
    | 0, hk => simp at hk; rw [← hk]; simp [go_sem]
    | 1, hk => simp at hk; rw [← hk]; simp [go_sem]
    | 2, hk => simp at hk; rw [← hk]; simp [go_sem]
    | 3, hk => simp at hk; rw [← hk]; simp [go_sem]
  have ST : Hid ((⟨r.nm.toArray⟩ : ByteArray) = ⟨(r.nm ++ opsP ([i.a, i.b, i.c, i.d].take 0)).toArray⟩) := hide (by simp [opsP])
  go_wp2_with fail
  go_loopw [4, 26] (fun t j wr => ∃ k : Nat, k ≤ n ∧ j = .int .i64 k ∧ t = .string ⟨(r.nm ++ opsP ([i.a, i.b, i.c, i.d].take k)).toArray⟩ ∧ Hid (G ((w1.alloc (.cells #[.string ⟨r.nm.toArray⟩, .int .i64 (n : Int), .bool r.pt, .bool r.mkr] 113)).alloc (.cells #[.int .i64 i.a, .int .i64 i.b, .int .i64 i.c, .int .i64 i.d] 115)) wr)) (fun _ j _ => n - (intOf j).toNat)
  case atStart => exact ⟨0, Nat.zero_le _, rfl, by rw [← unhide ST], hide (G.refl _)⟩
  case round =>
    obtain ⟨k, hk, rfl, rfl, HG⟩ := hrel
    clear c0 c1 c2 c3 c4 d1 d2 d3 d4 ST
    obtain ⟨gw, hcl⟩ := unhide AR wr (unhide HG)
    by_cases hlt : k < n
    · obtain ⟨v, hv, ov⟩ : ∃ v, [i.a, i.b, i.c, i.d][k]? = some v ∧ oI v := by
        have h4 : k < 4 := by omega
        obtain ⟨o0, o1, o2, o3, o4⟩ := unhide HI
        match k, h4 with
        | 0, _ => exact ⟨_, rfl, o1⟩
        | 1, _ => exact ⟨_, rfl, o2⟩
        | 2, _ => exact ⟨_, rfl, o3⟩
        | 3, _ => exact ⟨_, rfl, o4⟩
      have hc := hcl k v hv
      have C := hide (unhide IT wr v gw ov)
      have hz0 := unhide SZ k (by omega)
      have hz1 : (⟨(Lib.itoa v).toArray⟩ : ByteArray).size ≤ 21 := by
        show (Lib.itoa v).toArray.size ≤ 21
        simpa using Lib.itoa_length_le v ov.1 ov.2
      have NX : Hid ((⟨(r.nm ++ opsP ([i.a, i.b, i.c, i.d].take k)).toArray⟩ : ByteArray) ++ ((⟨#[32]⟩ : ByteArray) ++ ⟨(Lib.itoa v).toArray⟩) = ⟨(r.nm ++ opsP ([i.a, i.b, i.c, i.d].take (k + 1))).toArray⟩) := hide (by
        rw [ops_next _ k v hv, show (⟨#[32]⟩ : ByteArray) = ⟨[32].toArray⟩ from rfl, ba_append, ba_append]
        simp)
      generalize (⟨(r.nm ++ opsP ([i.a, i.b, i.c, i.d].take k)).toArray⟩ : ByteArray) = T0 at *
      generalize (⟨(Lib.itoa v).toArray⟩ : ByteArray) = T1 at *
      clear hcl hv ov gw
      go_wp2_with fail
      refine (unhide C).mono ?_
      rintro e w2 ⟨rfl, hg⟩
      have HG2 := hide ((unhide HG).trans hg)
      clear hg C HG hc
      go_wp2_with fail
      go_roundw
      case rel => exact ⟨k + 1, by omega, by go_num, by rw [unhide NX], HG2⟩
      case measure => simp [intOf]; omega
    · obtain rfl : k = n := by omega
      replace gw := hide gw
      clear hcl HG AR IT SZ
      go_wp2_with fail
      go_ret
      refine ⟨?_, unhide gw⟩
      rw [unhide SH]
      rfl
end Go.Proofs.YtdekhnfncecacaaDoor
