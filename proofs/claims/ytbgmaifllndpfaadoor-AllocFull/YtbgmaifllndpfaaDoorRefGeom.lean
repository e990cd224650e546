/- The contracts of the document's own geometry (gantlineref1), from stage 4 on. -/
import Derived.Test.YtbgmaifllndpfaaDoorRefNew
namespace Go.Proofs.YtbgmaifllndpfaaDoor
open Go.RowKit

set_option maxHeartbeats 400000 in
theorem rplaces_any (c : Int) (w : World) :
    Calls Tryd.prog 21 #[.int .i64 c] w fun e w' => e = .returned (.int .i64 (gp c)) ∧ G w w' := by
  rcases cls c with h | h | h
  · go_enter Tryd.func21, Tryd.ntmps21
    go_wp2_with fail
    go_ret
    exact ⟨ret_int (gp_lo h).symm, G.refl _⟩
  · go_enter Tryd.func21, Tryd.ntmps21
    go_wp2_with fail
    go_ret
    exact ⟨ret_int (gp_hi h).symm, G.refl _⟩
  have h0 : 0 ≤ c := by omega
  have h5 : c ≤ 5 := by omega
  have C := hide (rwords_any c w)
  have hg : 2 ≤ gw c ∧ gw c ≤ 64 ∧ 64 / gw c = gp c := by rcases h with h | h | h | h | h | h <;> (subst h; decide)
  clear h
  obtain ⟨g0, g1, g2⟩ := hg
  generalize gp c = m at *
  generalize gw c = g at *
  go_enter Tryd.func21, Tryd.ntmps21
  go_wp2_with fail
  refine (unhide C).mono ?_
  rintro e w1 ⟨rfl, hgr⟩
  have HG := hide hgr
  clear hgr C
  go_wp2_with fail
  go_ret
  exact ⟨ret_int (by first | exact g2 | omega), unhide HG⟩

end Go.Proofs.YtbgmaifllndpfaaDoor
