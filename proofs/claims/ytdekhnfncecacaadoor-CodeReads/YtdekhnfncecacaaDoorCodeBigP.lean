/- A module that is not big has few bytes. -/
import Derived.Test.YtdekhnfncecacaaDoorCodeBig
import Derived.Test.YtdekhnfncecacaaDoorCodeP
namespace Go.Proofs.YtdekhnfncecacaaDoor
set_option maxRecDepth 100000
open Go.RowKit Go.Maps Go.ChangeShapes Go.WideShapes Go.ChangeAt Go.Deep

theorem eU_le (u : Nat) : (eU u).length ≤ 10 := (encF_len 9 u).2
theorem eI_le (v : Int) : (eI v).length ≤ 10 := eU_le _
theorem flat_le {α : Type} (e : α → List Int) (K : Nat) : ∀ l : List α, (∀ a ∈ l, (e a).length ≤ K) → (l.flatMap e).length ≤ l.length * K
  | [], _ => by simp
  | a :: l, h => by
    have h1 := flat_le e K l (fun b hb => h b (by simp [hb]))
    have h2 := h a (by simp)
    simp only [List.flatMap_cons, List.length_append, List.length_cons, Nat.add_mul]
    omega
theorem eL_le {α : Type} (e : α → List Int) (K n : Nat) (l : List α) (h : ∀ a ∈ l, (e a).length ≤ K) (hn : l.length ≤ n) : (eL e l).length ≤ 10 + n * K := by
  have h1 := flat_le e K l h
  have h2 := eU_le l.length
  have h3 : l.length * K ≤ n * K := Nat.mul_le_mul_right _ hn
  unfold eL
  rw [List.length_append]
  omega
theorem eFn_le (f : Fn) (h : smFn f) : (eFn f).length ≤ 20000 := by
  obtain ⟨h1, h2, h3⟩ := h
  have k1 := eL_le eB 10 100 f.ks (fun a _ => eU_le _) h3
  have k2 := eL_le eIn 50 200 f.is (fun a _ => by
    have := eI_le a.op; have := eI_le a.a; have := eI_le a.b; have := eI_le a.c; have := eI_le a.d
    simp only [eIn, List.length_append]; omega) h1
  have k3 := eL_le eU 10 300 f.ms (fun a _ => eU_le _) h2
  have := eI_le f.p; have := eI_le f.c; have := eI_le f.s; have := eI_le f.r
  simp only [eFn, List.length_append]
  omega
theorem encM_le (m : Md) (h : smMd m) : (encM m).length ≤ 1000000 := by
  obtain ⟨h1, h2, h3, h4, h5, h6⟩ := h
  have k1 := eL_le eSp 30 40 m.sh (fun a _ => by
    have := eI_le a.k; have := eI_le a.f; have := eU_le a.m
    simp only [eSp, List.length_append]; omega) h1
  have k2 := eL_le eB 10 300 m.gl (fun a _ => eU_le _) h2
  have k3 := eL_le eI 10 100 m.co (fun a _ => eI_le _) h3
  have k4 := eL_le eCa 40 60 m.ca (fun a _ => by
    have := eI_le a.k; have := eI_le a.c; have := eI_le a.v; have := eI_le a.t
    simp only [eCa, List.length_append]; omega) h4
  have k5 := eL_le eFn 20000 20 m.fn (fun a ha => eFn_le a (h6 a ha)) h5
  have := eI_le m.main
  have hf : fst4.length = 4 := rfl
  simp only [encM, eMd, List.length_append, hf]
  omega
end Go.Proofs.YtdekhnfncecacaaDoor
