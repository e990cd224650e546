/- What the frames of stage 9 share: bytes and an instruction that came in. -/
import Derived.Test.YtdekhnfncecacaaDoorCodeAwake
import Derived.Test.YtdekhnfncecacaaDoorCodeOpen
import Derived.Test.YtdekhnfncecacaaDoorCodeBig
import Derived.Test.YtdekhnfncecacaaDoorCodeBigP
namespace Go.Proofs.YtdekhnfncecacaaDoor
set_option maxRecDepth 100000
open Go.RowKit Go.Maps Go.ChangeShapes Go.WideShapes Go.ChangeAt Go.Deep

/-- Bytes that came in. -/
def InRow (w : World) (ao : Option Addr) (n c : Nat) (zs : List Int) : Prop := Row w ao n zs ∧ n ≤ c ∧ (ao = none → c = 0)
section
variable {H : Type} {enc : TypeId × Value → H} {w : World} {base b0 : Nat} {spare : Nat → Bool} {held : Bool} {r : Reach} {v : Value} {d : DataW H} {ps : List MemPlace}
theorem open_bytes (hval : Value.okWide Tryd.prog w r b0 31 v) (hd : DataW.Trod enc Tryd.prog w base spare held 31 v d ps) : ∃ ao n c zs, v = .slice ao n c ∧ InRow w ao n c zs := by
  obtain ⟨ao, len, cap, rfl⟩ := okWide_slice Tryd.underlying31 hval
  obtain ⟨fuel, hf⟩ := hd
  rcases open_ints Tryd.underlying31 Tryd.underlying5 (by kernel_rfl) hf with ⟨hcs, _⟩ | ⟨x, l, c, zs, hcs, _, hl, hm, hz, _, hcell, hwz⟩
  · simp [Value.cells] at hcs
    obtain ⟨rfl, rfl, rfl⟩ := hcs
    exact ⟨none, 0, 0, [], rfl, ⟨rfl, (fun _ h => by cases h), Or.inl rfl⟩, Nat.le_refl _, fun _ => rfl⟩
  · simp [Value.cells] at hcs
    obtain ⟨rfl, rfl, rfl⟩ := hcs
    have hle : len ≤ zs.length := by rw [hz]; split <;> omega
    refine ⟨some x, len, cap, zs.take len, rfl, ⟨by simp; omega, fun z h => bounds_u8 (hwz z (List.mem_of_mem_take h)), ?_⟩, hl, fun e => by cases e⟩
    rcases Nat.eq_zero_or_pos len with h0 | h0
    · exact Or.inl h0
    · obtain ⟨b, off, spot⟩ := x
      have hc := hcell 0 (by omega)
      have hspot : spot = none := by simpa [Addr.add] using World.cell?_spot hc
      subst hspot
      refine Or.inr ⟨b, off, rfl, fun i hi => ?_⟩
      have := hcell i (by omega)
      rw [Addr.add_lit] at this
      rw [this]
      simp [List.getD, hi]
end
end Go.Proofs.YtdekhnfncecacaaDoor
