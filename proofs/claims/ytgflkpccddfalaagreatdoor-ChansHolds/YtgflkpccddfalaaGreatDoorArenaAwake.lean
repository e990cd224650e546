/- awake() answers true. -/
import Derived.Test.YtgflkpccddfalaaGreatDoorArenaNew
namespace Go.Proofs.YtgflkpccddfalaaGreatDoor
set_option maxRecDepth 100000
open Go.RowKit Go.Maps Go.ChangeShapes Go.WideShapes Go.ChangeAt

/-- Two arenas that share nothing. -/
def Apart (d d2 : Ad) : Prop := (d.ab ≠ d2.wb ∧ d.ab ≠ d2.sb) ∧ (d.wb ≠ d2.wb ∧ d.wb ≠ d2.sb) ∧ (d.sb ≠ d2.wb ∧ d.sb ≠ d2.sb)
theorem Apart.keeps {W w w' : World} {d d2 : Ad} {a a2 : Ab} (h : Apart d d2) (s : St W w d a) (s2 : St W w' d2 a2) (t : Tn w w' d2) : St W w' d a := s.beside t s2.below h.1 h.2.1 h.2.2
theorem St.apart {W w : World} {d d2 : Ad} {a : Ab} (s : St W w d a) (h0 : w.heap.size ≤ d2.ab) (h1 : w.heap.size ≤ d2.wb) (h2 : w.heap.size ≤ d2.sb) : Apart d d2 ∧ Apart d2 d := by
  have l0 := s.at_.lt0
  have l1 := s.at_.lt1 s.n8
  have l2 := s.at_.lt2 s.n8
  exact ⟨⟨⟨by omega, by omega⟩, ⟨by omega, by omega⟩, ⟨by omega, by omega⟩⟩, ⟨⟨by omega, by omega⟩, ⟨by omega, by omega⟩, ⟨by omega, by omega⟩⟩⟩

end Go.Proofs.YtgflkpccddfalaaGreatDoor
