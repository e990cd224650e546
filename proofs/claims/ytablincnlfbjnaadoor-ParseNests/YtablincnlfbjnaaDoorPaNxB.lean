/- ParseNests: reckoned by the kernel. -/
import Derived.Test.YtablincnlfbjnaaDoorPaNx
namespace Go.Proofs.YtablincnlfbjnaaDoor
set_option maxRecDepth 100000
set_option maxRecDepth 1000000 in
theorem nx_b_0 : ∀ n : Fin 20, (textP (nxB (n.val + 1))).2.2 = if 60 < n.val + 1 then 2 else 0 := by decide +kernel
set_option maxRecDepth 1000000 in
theorem nx_b_1 : ∀ n : Fin 20, (textP (nxB (n.val + 21))).2.2 = if 60 < n.val + 21 then 2 else 0 := by decide +kernel
set_option maxRecDepth 1000000 in
theorem nx_b_2 : ∀ n : Fin 20, (textP (nxB (n.val + 41))).2.2 = if 60 < n.val + 41 then 2 else 0 := by decide +kernel
set_option maxRecDepth 1000000 in
theorem nx_b_3 : ∀ n : Fin 20, (textP (nxB (n.val + 61))).2.2 = if 60 < n.val + 61 then 2 else 0 := by decide +kernel
theorem nx_b (n : Fin 80) : (textP (nxB (n.val + 1))).2.2 = if 60 < n.val + 1 then 2 else 0 := by
  obtain ⟨n, hn⟩ := n
  by_cases h0 : n < 20
  · exact nx_b_0 ⟨n, h0⟩
  by_cases h1 : n < 40
  · have := nx_b_1 ⟨n - 20, by omega⟩
    rwa [show n - 20 + 21 = n + 1 by omega] at this
  by_cases h2 : n < 60
  · have := nx_b_2 ⟨n - 40, by omega⟩
    rwa [show n - 40 + 41 = n + 1 by omega] at this
  · have := nx_b_3 ⟨n - 60, by omega⟩
    rwa [show n - 60 + 61 = n + 1 by omega] at this
set_option maxRecDepth 1000000 in
theorem nx_l_0 : ∀ n : Fin 20, (textP (nxL (n.val + 1))).2.2 = if 59 < n.val + 1 then 2 else 0 := by decide +kernel
set_option maxRecDepth 1000000 in
theorem nx_l_1 : ∀ n : Fin 20, (textP (nxL (n.val + 21))).2.2 = if 59 < n.val + 21 then 2 else 0 := by decide +kernel
set_option maxRecDepth 1000000 in
theorem nx_l_2 : ∀ n : Fin 20, (textP (nxL (n.val + 41))).2.2 = if 59 < n.val + 41 then 2 else 0 := by decide +kernel
set_option maxRecDepth 1000000 in
theorem nx_l_3 : ∀ n : Fin 20, (textP (nxL (n.val + 61))).2.2 = if 59 < n.val + 61 then 2 else 0 := by decide +kernel
theorem nx_l (n : Fin 80) : (textP (nxL (n.val + 1))).2.2 = if 59 < n.val + 1 then 2 else 0 := by
  obtain ⟨n, hn⟩ := n
  by_cases h0 : n < 20
  · exact nx_l_0 ⟨n, h0⟩
  by_cases h1 : n < 40
  · have := nx_l_1 ⟨n - 20, by omega⟩
    rwa [show n - 20 + 21 = n + 1 by omega] at this
  by_cases h2 : n < 60
  · have := nx_l_2 ⟨n - 40, by omega⟩
    rwa [show n - 40 + 41 = n + 1 by omega] at this
  · have := nx_l_3 ⟨n - 60, by omega⟩
    rwa [show n - 60 + 61 = n + 1 by omega] at this
end Go.Proofs.YtablincnlfbjnaaDoor
