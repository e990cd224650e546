/- ParseNests' texts, reckoned. -/
import Derived.Test.YtablincnlfbjnaaDoorPaNx0
import Derived.Test.YtablincnlfbjnaaDoorPaNx1
import Derived.Test.YtablincnlfbjnaaDoorPaNx2
import Derived.Test.YtablincnlfbjnaaDoorPaNx3
import Derived.Test.YtablincnlfbjnaaDoorPaNxB
namespace Go.Proofs.YtablincnlfbjnaaDoor
set_option maxRecDepth 100000
theorem fin_80 {p : Nat → Prop} (h : ∀ n : Fin 80, p (n.val + 1)) (n : Nat) (h1 : 1 ≤ n) (h2 : n ≤ 80) : p n := by
  have := h ⟨n - 1, by omega⟩
  rwa [show n - 1 + 1 = n by omega] at this
end Go.Proofs.YtablincnlfbjnaaDoor
