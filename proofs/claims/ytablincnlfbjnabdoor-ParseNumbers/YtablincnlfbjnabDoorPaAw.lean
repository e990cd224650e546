/- gantlinelaw21's awake answers true. -/
import Derived.Test.YtablincnlfbjnabDoorPaBase
namespace Go.Proofs.YtablincnlfbjnabDoor
set_option maxRecDepth 100000
open Go.RowKit Go.Maps Go.ChangeShapes Go.WideShapes Go.ChangeAt Go.Deep

/-- Parse at a closed text: where, and the error. -/
theorem parse_at {s : ByteArray} {w : World} (hs : s.size ≤ 16384) (hE : EvAt w) (hT : SpAt w) {a er : Int} {L : List UInt8} (hl : s.data.toList = L) (h : (textP L).2 = (a, er)) : Calls Tryd.prog 7 #[.string s] w fun e w' => G w w' ∧ ∃ (k x : List UInt8) (at0 : Int) (ao : Option Addr) (n c : Nat), e = .returned (.tuple #[.agg #[.string ⟨k.toArray⟩, .string ⟨x.toArray⟩, .int .i64 at0, .slice ao n c], .int .i64 a, .int .i64 er]) := by
  refine (parse_any s w hs hE hT).mono ?_
  rintro e w' ⟨g, ao, n, c, e1, _⟩
  rw [hl, h] at e1
  exact ⟨g, _, _, _, ao, n, c, e1⟩
theorem tx_1 : (textP [102, 117, 110, 99, 32, 109, 97, 105, 110, 40, 41, 32, 123, 32, 112, 114, 105, 110, 116, 32, 49, 32, 43, 32, 50, 59, 32, 125]).2 = (0, 0) ∧ (textP [102, 117, 110, 99, 32, 109, 97, 105, 110, 40, 41, 32, 123, 32, 112, 114, 105, 110, 116, 32, 49, 32, 43, 32, 50, 59, 32, 125]).1.k = [112, 114, 111, 103, 114, 97, 109] ∧ (textP [102, 117, 110, 99, 32, 109, 97, 105, 110, 40, 41, 32, 123, 32, 112, 114, 105, 110, 116, 32, 49, 32, 43, 32, 50, 59, 32, 125]).1.ks.map (fun t => (t.k, t.x, t.ks.length)) = [([102, 117, 110, 99], [109, 97, 105, 110], 3)] := by decide +kernel
theorem tx_2 : (textP [102, 117, 110, 99]).2 = (4, 6) := by decide +kernel
theorem map_one {α β : Type} {f : α → β} {l : List α} {b : β} (h : l.map f = [b]) : ∃ a, l = [a] ∧ f a = b := by
  cases l with
  | nil => cases h
  | cons a r =>
    cases r with
    | nil => exact ⟨a, rfl, by simpa using h⟩
    | cons c r => simp at h
set_option maxHeartbeats 4000000 in
theorem awake_any (w : World) (hE : EvAt w) (hT : SpAt w) : Calls Tryd.prog 4 #[] w fun e w' => e = .returned (.bool true) ∧ G w w' := by
  have C1 : Hid (Calls Tryd.prog 7 #[.string ⟨#[102, 117, 110, 99, 32, 109, 97, 105, 110, 40, 41, 32, 123, 32, 112, 114, 105, 110, 116, 32, 49, 32, 43, 32, 50, 59, 32, 125]⟩] w fun e w1 => G w w1 ∧ ∃ (x : List UInt8) (at0 : Int) (g off c : Nat) (ao : Option Addr) (kc : Nat), e = .returned (.tuple #[.agg #[.string ⟨#[112, 114, 111, 103, 114, 97, 109]⟩, .string ⟨x.toArray⟩, .int .i64 at0, .slice (some ⟨g, off, none⟩) 1 c], .int .i64 0, .int .i64 0]) ∧ ∀ z, G w1 z → z.cell? ⟨g, off, none⟩ = some (.string ⟨#[102, 117, 110, 99]⟩) ∧ z.cell? ⟨g, off + 1, none⟩ = some (.string ⟨#[109, 97, 105, 110]⟩) ∧ z.cell? ⟨g, off + 3, none⟩ = some (.slice ao 3 kc)) := hide (by
    refine (parse_any ⟨#[102, 117, 110, 99, 32, 109, 97, 105, 110, 40, 41, 32, 123, 32, 112, 114, 105, 110, 116, 32, 49, 32, 43, 32, 50, 59, 32, 125]⟩ w (by decide) hE hT).mono ?_
    rintro e w1 ⟨g, ao, n, c, e1, ho⟩
    rw [show (⟨#[102, 117, 110, 99, 32, 109, 97, 105, 110, 40, 41, 32, 123, 32, 112, 114, 105, 110, 116, 32, 49, 32, 43, 32, 50, 59, 32, 125]⟩ : ByteArray).data.toList = [102, 117, 110, 99, 32, 109, 97, 105, 110, 40, 41, 32, 123, 32, 112, 114, 105, 110, 116, 32, 49, 32, 43, 32, 50, 59, 32, 125] from rfl] at e1 ho
    obtain ⟨t1, t2, t3⟩ := tx_1
    generalize textP [102, 117, 110, 99, 32, 109, 97, 105, 110, 40, 41, 32, 123, 32, 112, 114, 105, 110, 116, 32, 49, 32, 43, 32, 50, 59, 32, 125] = q at *
    obtain ⟨q1, q2⟩ := q
    dsimp only at t1 t2 t3 e1 ho
    rw [t1, t2] at e1
    obtain ⟨t, et, ft⟩ := map_one t3
    have f1 := congrArg (fun p => p.1) ft
    have f2 := congrArg (fun p => p.2.1) ft
    have f3 := congrArg (fun p => p.2.2) ft
    dsimp only at f1 f2 f3
    rw [et] at ho
    have hr := ho.row
    generalize hv : Value.slice ao n c = v at hr
    have hlen := hr
    cases hr with
    | row _ g0 off c0 kv hg hS hc hr =>
      cases hv
      obtain ⟨ko, kc, ke⟩ := (hr 0 t rfl).sl
      have h0 := hc 0 t rfl 0 _ rfl
      have h1 := hc 0 t rfl 1 _ rfl
      have h3 := hc 0 t rfl 3 _ rfl
      rw [ke, f3] at h3
      rw [f1] at h0
      rw [f2] at h1
      exact ⟨g, q1.x, q1.a, g0, off, c, ko, kc, e1, fun z gz => ⟨gz.cell (by simpa [ndT] using h0), gz.cell (by simpa [ndT] using h1), gz.cell (by simpa [ndT] using h3)⟩⟩)
  have C2 : Hid (∀ w1, G w w1 → Calls Tryd.prog 7 #[.string ⟨#[102, 117, 110, 99]⟩] w1 fun e w2 => G w1 w2 ∧ ∃ (k x : List UInt8) (at0 : Int) (ao : Option Addr) (n c : Nat), e = .returned (.tuple #[.agg #[.string ⟨k.toArray⟩, .string ⟨x.toArray⟩, .int .i64 at0, .slice ao n c], .int .i64 4, .int .i64 6])) := hide fun w1 g => parse_at (by decide) (hE.g g) (hT.g g) rfl tx_2
  clear hE hT
  go_enter Tryd.func4, Tryd.ntmps4
  go_wp2_with fail
  refine (unhide C1).mono ?_
  rintro e w1 ⟨g1, x, at0, g, off, c, ao, kc, rfl, hc⟩
  have ga := G.alloc w1 (.cells #[.string ⟨#[112, 114, 111, 103, 114, 97, 109]⟩, .string ⟨x.toArray⟩, .int .i64 at0, .slice (some ⟨g, off, none⟩) 1 c] 27)
  have C2' := hide (unhide C2 _ (g1.trans ga))
  have FC : Hid (∀ z, G (w1.alloc (.cells #[.string ⟨#[112, 114, 111, 103, 114, 97, 109]⟩, .string ⟨x.toArray⟩, .int .i64 at0, .slice (some ⟨g, off, none⟩) 1 c] 27)) z → ∀ o, G w (z.alloc o) ∧ (((z.alloc o).cell? ⟨w1.heap.size, 0, none⟩ = some (.string ⟨#[112, 114, 111, 103, 114, 97, 109]⟩) ∧ (z.alloc o).cell? ⟨w1.heap.size, 3, none⟩ = some (.slice (some ⟨g, off, none⟩) 1 c)) ∧ (z.alloc o).cell? ⟨g, off, none⟩ = some (.string ⟨#[102, 117, 110, 99]⟩) ∧ (z.alloc o).cell? ⟨g, off + 1, none⟩ = some (.string ⟨#[109, 97, 105, 110]⟩) ∧ (z.alloc o).cell? ⟨g, off + 3, none⟩ = some (.slice ao 3 kc))) := hide fun z gz o => by
    have b := ((BoxT.new w1 [112, 114, 111, 103, 114, 97, 109] x at0 (.slice (some ⟨g, off, none⟩) 1 c)).g gz).g (G.alloc z o)
    exact ⟨((g1.trans ga).trans gz).more o, ⟨b.c.1, b.c.2.2.2⟩, hc _ ((ga.trans gz).more o)⟩
  clear C1 C2 g1 hc ga
  go_wp2_with fail
  refine (unhide C2').mono ?_
  rintro e w2 ⟨g2, k2, x2, a2, ao2, n2, c2, rfl⟩
  obtain ⟨gf, ⟨b0, b3⟩, d0, d1, d3⟩ := unhide FC w2 g2 (.cells #[.string ⟨k2.toArray⟩, .string ⟨x2.toArray⟩, .int .i64 a2, .slice ao2 n2 c2] 27)
  replace gf := hide gf
  clear FC C2' g2
  go_wp2_with fail
  go_ret
  exact ⟨rfl, unhide gf⟩
end Go.Proofs.YtablincnlfbjnabDoor
