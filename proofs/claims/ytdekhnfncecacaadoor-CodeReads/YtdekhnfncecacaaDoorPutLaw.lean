/- The contract of bits.Put: the list that was handed in, then the number in bytes of seven bits, in new memory. -/
import Derived.Test.YtdekhnfncecacaaDoorLeaf2
import Derived.Laws.CopyOwn
namespace Go.Proofs.YtdekhnfncecacaaDoor
set_option maxRecDepth 100000
open Go.RowKit

/-- A number in bytes of seven bits, the lowest first; at most f + 1 of them. -/
def encF : Nat → Nat → List Int
  | 0, u => [(u : Int)]
  | f + 1, u => if u < 128 then [(u : Int)] else ((u % 128 + 128 : Nat) : Int) :: encF f (u / 128)

theorem encF_len : ∀ f u, 1 ≤ (encF f u).length ∧ (encF f u).length ≤ f + 1
  | 0, _ => by simp [encF]
  | f + 1, u => by
    have := encF_len f (u / 128)
    unfold encF
    split <;> simp <;> omega
theorem encF_stop (f u : Nat) (h : u < 128) : encF f u = [(u : Int)] := by
  cases f with
  | zero => rfl
  | succ f => unfold encF; rw [if_pos h]
theorem encF_more (f u : Nat) (h : ¬ u < 128) : encF (f + 1) u = ((u % 128 + 128 : Nat) : Int) :: encF f (u / 128) := by
  rw [encF, if_neg h]

/-- What is told of a slice of bytes that is read: n bytes, the numbers zs. -/
def Src (w : World) (ao : Option Addr) (n : Nat) (zs : List Int) : Prop :=
  zs.length = n ∧ (0 < n → ∃ ad, ao = some ad ∧ ∀ j v, (zs.map (Value.int .u8))[j]? = some v → w.cell? (ad.add j) = some v)

theorem Src.later {w w' : World} {ao : Option Addr} {n : Nat} {zs : List Int} (h : Src w ao n zs) (hb : Below w.heap.size w w') : Src w' ao n zs := by
  refine ⟨h.1, fun hn => ?_⟩
  obtain ⟨ad, e, hc⟩ := h.2 hn
  exact ⟨ad, e, fun j v hv => cell_later hb (hc j v hv)⟩

theorem u8info : (Tryd.prog.info? 5).map (fun i => (i.zero, i.size, i.bytes)) = some (some (.int .u8 0), 1, 1) := by kernel_rfl
theorem u8size : (Tryd.prog.info? 5).map (·.size) = some 1 := by kernel_rfl

theorem run_mk (n : Nat) (hn : n ≤ 10000000) (w : World) : (Instr.makeSlice 31 (.int .i64 (n : Int)) (.int .i64 ((n : Int) + 10))).run Tryd.prog w = .ok (.slice (some ⟨w.heap.size, 0, none⟩) n (n + 10)) (w.alloc (.cells (madeCells #[.int .u8 0] (n + 10)) 5)) := by
  obtain ⟨i, hi, hz, hs, hb⟩ := info_parts u8info
  have := run_make (P := Tryd.prog) w 31 5 i (.int .u8 0) Tryd.underlying31 hi hz .i64 .i64 (n : Int) ((n : Int) + 10) (by omega) (by omega) (by rw [hb]; omega) (by omega)
  rw [this, hs]
  have e1 : ((n : Int) + 10).toNat = n + 10 := by omega
  rw [e1, Int.toNat_natCast, Nat.mul_one]
  rfl

theorem own_spliced (w : World) (g n : Nat) (zs : List Int) (hz : zs.length = n) (hn : n ≤ 10000000) (h : w.heap[g]? = some (.cells (splice (List.replicate (n + 10) (Value.int .u8 0)) 0 (zs.map (Value.int .u8))).toArray 5 (0, 0))) :
    w.ownsRow g 5 1 (.slice (some ⟨g, 0, none⟩) n (n + 10)) n (zs.map (Value.int .u8)) := by
  refine ⟨by simp [hz], Or.inr ⟨g, n + 10, _, rfl, Nat.le_refl _, h, by omega, by unfold maxLen; omega, ?_, ?_⟩⟩
  · simp [splice, hz]
  · simp [splice, hz]

/-- What holds at each round's head: k bytes are written, the number that is left is uu. -/
def PutAt (B n u : Nat) (zs : List Int) (k uu : Nat) (wr : World) : Prop :=
  ∃ pre : List Int, pre.length = k ∧ pre ++ encF (9 - k) uu = encF 9 u ∧ wr.ownsRow B 5 1 (.slice (some ⟨B, 0, none⟩) (n + k) (n + 10)) (n + k) ((zs ++ pre).map (Value.int .u8))

theorem or128_all : ∀ a : Fin 256, a.val ||| 128 = a.val % 128 + 128 := by decide +kernel
theorem or128 (uu : Nat) : bits .or .u8 ((uu : Int) % 256) 128 = ((uu % 128 + 128 : Nat) : Int) := by
  have e : (uu : Int) % 256 = ((uu % 256 : Nat) : Int) := by omega
  have h : uu % 256 < 256 := Nat.mod_lt _ (by decide)
  have a1 : bits .or .u8 ((uu % 256 : Nat) : Int) 128 = ((uu % 256 ||| 128 : Nat) : Int) := u8_or_nat (uu % 256) 128 h (by decide)
  have a2 := or128_all ⟨uu % 256, h⟩
  simp only at a2
  rw [e, a1, a2]
  omega

theorem put_round {B n u : Nat} {zs : List Int} {k uu x : Nat} {w1 : World} (hk : k ≤ 8) (hx : x = uu % 128 + 128) (h : ¬ uu < 128) {pre : List Int} (hpre : pre.length = k) (henc : pre ++ encF (9 - k) uu = encF 9 u)
    (hown : w1.ownsRow B 5 1 (.slice (some ⟨B, 0, none⟩) (n + k + 1) (n + 10)) (n + k + 1) ((zs ++ pre).map (Value.int .u8) ++ [Value.int .u8 (x : Int)])) : PutAt B n u zs (k + 1) (uu / 128) w1 := by
  refine ⟨pre ++ [(x : Int)], by simp [hpre], ?_, ?_⟩
  · rw [← henc, show 9 - k = (9 - (k + 1)) + 1 by omega, encF_more _ uu h, hx]; simp
  · have e : (zs ++ (pre ++ [(x : Int)])).map (Value.int .u8) = (zs ++ pre).map (Value.int .u8) ++ [Value.int .u8 (x : Int)] := by simp
    rw [e, ← Nat.add_assoc]; exact hown

theorem lim_step {k uu : Nat} (hk : k ≤ 9) (hlim : uu < 2 * 128 ^ (9 - k)) (h : ¬ uu < 128) : k ≤ 8 ∧ uu / 128 < 2 * 128 ^ (9 - (k + 1)) := by
  by_cases h9 : k = 9
  · subst h9; simp at hlim; omega
  · refine ⟨by omega, ?_⟩
    rw [show 9 - k = (9 - (k + 1)) + 1 by omega, Nat.pow_succ] at hlim
    omega

/-- The new slice: the old bytes, and the number's. -/
def PutEnd (B n u : Nat) (zs : List Int) (w w' : World) : Prop :=
  w'.ownsRow B 5 1 (.slice (some ⟨B, 0, none⟩) (n + (encF 9 u).length) (n + 10)) (n + (encF 9 u).length) ((zs ++ encF 9 u).map (Value.int .u8)) ∧ Below B w w'

set_option maxHeartbeats 400000 in
set_option maxRecDepth 100000 in
theorem put_any (ao : Option Addr) (n c u : Nat) (zs : List Int) (w : World) (hs : Src w ao n zs) (hu : u < 18446744073709551616) (hn : n ≤ 10000000) :
    Calls Tryd.prog 74 #[.slice ao n c, .int .u64 (u : Int)] w fun e w' => e = .returned (.slice (some ⟨w.heap.size, 0, none⟩) (n + (encF 9 u).length) (n + 10)) ∧ PutEnd w.heap.size n u zs w w' := by
  have hmk := run_mk n hn
  have hz : zs.length = n := hs.1
  have HZ := hide hz
  have HS := hide hs
  clear hs hz
  obtain ⟨L, hL⟩ : ∃ L, L = (encF 9 u).length := ⟨_, rfl⟩
  rw [← hL]
  have HL := hide hL
  clear hL
  obtain ⟨i0, hi, hz0, hz1, hz2⟩ := info_parts u8info
  go_enter Tryd.func74, Tryd.ntmps74
  go_wp2_with (refine wpList_copy_splice rfl (.tmp 12) (.tmp 13) 31 31 rfl 5 Tryd.underlying31 u8size _ _ _ _ _ _ rfl rfl w.heap.size 0 (List.replicate (n + 10) (Value.int .u8 0)) 5 ?hg (zs.map (Value.int .u8)) ?hn ?hpos ?hfit ?h1 w.heap.size w ?hb ?hBg ?_)
  case hg => rw [← toList_madeCells_one]; exact heap_alloc_new w _
  case hn => simp [unhide HZ]
  case hpos =>
    intro hp
    obtain ⟨ad, e, hc⟩ := (unhide HS).2 (by simpa [unhide HZ] using hp)
    have hc2 := fun j v hv => cell_later ((Below.refl w.heap.size w).alloc (Nat.le_refl _) (Obj.cells (madeCells #[Value.int .u8 0] (n + 10)) 5)) (hc j v hv)
    exact ⟨ad, e, fun j a h => hc2 j _ (by simp [h])⟩
  case hfit => simp [unhide HZ]
  case h1 => exact ints_oneCell _ _
  case hb => exact (Below.refl _ _).alloc (Nat.le_refl _) _
  case hBg => exact Nat.le_refl _
  intro w2 HG2 hB2
  have HO := hide (own_spliced w2 w.heap.size n zs (unhide HZ) hn HG2.out)
  have HB2 := hide hB2
  clear HG2 hB2 HS
  go_wp2_with fail
  go_loopw [1, 5] (fun uv out wr => ∃ k uu : Nat, k ≤ 9 ∧ Hid (uu < 2 * 128 ^ (9 - k)) ∧ uu < 18446744073709551616 ∧ uv = .int .u64 uu ∧ out = .slice (some ⟨w.heap.size, 0, none⟩) (n + k) (n + 10) ∧ Hid (PutAt w.heap.size n u zs k uu wr) ∧ Hid (Below w.heap.size w wr)) (fun uv _ _ => (intOf uv).toNat)
  case atStart => exact ⟨0, u, by omega, hide (by simpa using hu), hu, rfl, rfl, ⟨[], rfl, rfl, by simpa using unhide HO⟩, HB2⟩
  case round =>
    obtain ⟨k, uu, hk, HLIM, huu, rfl, rfl, HP, HB⟩ := hrel
    clear HO HB2
    obtain ⟨pre, hpre, henc, hown⟩ := unhide HP
    have HPRE := hide hpre
    have HENC := hide henc
    have hBs : w.heap.size ≤ wr.heap.size := (unhide HB).size
    clear hpre henc HP
    by_cases hlt : uu < 128
    · clear HLIM
      go_wp2_with (at_builtin; refine wpList_append_fits _ rfl (.tmp 25) (.tmp 28) 31 rfl w.heap.size 5 i0 1 Tryd.underlying31 hi hz1 w.heap.size (n + k) (n + 10) ((zs ++ pre).map (Value.int .u8)) rfl (hown.alloc _) ⟨wr.heap.size, 0, none⟩ 1 1 [.int .u8 (uu : Int)] rfl rfl ?c1 ?c2 ?b1 ?_)
      case c1 =>
        intro j v hj
        match j, hj with
        | 0, hj => simp at hj; subst hj; simp [Addr.add]
      case c2 => intro v hv; simp at hv; subst hv; rfl
      case b1 => omega
      intro w4 hown4 hgrow
      have HE : Hid (PutEnd w.heap.size n u zs w w4 ∧ n + k + 1 = n + L) := by
        have he : pre ++ [(uu : Int)] = encF 9 u := by rw [← unhide HENC, encF_stop _ uu hlt]
        have hl : L = k + 1 := by rw [unhide HL, ← he]; simp [unhide HPRE]
        refine ⟨⟨?_, Below.grown ((unhide HB).alloc hBs _) hgrow (by simp; omega) (fun q hq => by simp at hq; omega)⟩, by omega⟩
        rw [← unhide HL, hl, ← he]
        have e : (zs ++ (pre ++ [(uu : Int)])).map (Value.int .u8) = (zs ++ pre).map (Value.int .u8) ++ [Value.int .u8 (uu : Int)] := by simp
        rw [e, ← Nat.add_assoc]; simpa using hown4
      clear hown4 hgrow hown
      go_wp2_with fail
      go_ret
      refine ⟨?_, (unhide HE).1⟩
      rw [← (unhide HE).2]; rfl
    · have st := lim_step hk (unhide HLIM) hlt
      have hk8 := st.1
      have HLIM2 := hide st.2
      clear st HLIM
      have hor := or128 uu
      obtain ⟨x, hx⟩ : ∃ x, x = uu % 128 + 128 := ⟨_, rfl⟩
      rw [← hx] at hor
      have HX := hide hx
      clear hx
      go_wp2_with (at_builtin; refine wpList_append_fits _ rfl (.tmp 17) (.tmp 21) 31 rfl w.heap.size 5 i0 1 Tryd.underlying31 hi hz1 w.heap.size (n + k) (n + 10) ((zs ++ pre).map (Value.int .u8)) rfl (hown.alloc _) ⟨wr.heap.size, 0, none⟩ 1 1 [.int .u8 (x : Int)] rfl rfl ?c1 ?c2 ?b1 ?_)
      case c1 =>
        intro j v hj
        match j, hj with
        | 0, hj => simp at hj; subst hj; simp [Addr.add]
      case c2 => intro v hv; simp at hv; subst hv; rfl
      case b1 => omega
      intro w4 hown4 hgrow
      have HP4 := hide (put_round hk8 (unhide HX) hlt (unhide HPRE) (unhide HENC) (zs := zs) (n := n) (by simpa using hown4))
      have HB4 : Hid (Below w.heap.size w w4) := Below.grown ((unhide HB).alloc hBs _) hgrow (by simp; omega) (fun q hq => by simp at hq; omega)
      clear hown4 hgrow hown hor
      go_wp2_with fail
      go_roundw
      case rel => exact ⟨k + 1, uu / 128, by omega, HLIM2, by omega, by go_num, rfl, HP4, HB4⟩
      case measure => simp [intOf]; omega
end Go.Proofs.YtdekhnfncecacaaDoor
