/- targets of package live; maps of slots and kinds. -/
import Derived.Test.YtnliooflpclcbaaGreatDoorLiveFC
namespace Go.Proofs.YtnliooflpclcbaaGreatDoor
set_option maxRecDepth 100000
open Go.RowKit Go.Maps Go.ChangeShapes Go.WideShapes Go.ChangeAt Go.Deep

set_option maxHeartbeats 1000000 in
theorem targets_any (w : World) (ao : Option Addr) (n c : Nat) (l : List Ca) (hr : RowAt elCa w ao n c l) (hn : n ≤ 1000000) :
    Calls Tryz.prog 64 #[.slice ao n c] w (LTo w (l.map Ca.t)) := by
  have hln := hr.1
  have hmk := mk_ints n (by omega) w
  obtain ⟨f, hf⟩ : ∃ f : Nat → Int, f = fun k => ((l[k]?).map Ca.t).getD 0 := ⟨_, rfl⟩
  have RD : Hid (∀ (k : Nat) (wr : World), k < n → G w wr → ∃ (b off : Nat) (s : Ca), ao = some ⟨b, off, none⟩ ∧ f k = s.t ∧ wr.cell? ⟨b, off + k * 4, none⟩ = some (.int .i64 s.k) ∧ wr.cell? ⟨b, off + k * 4 + 1, none⟩ = some (.int .i64 s.c) ∧ wr.cell? ⟨b, off + k * 4 + 2, none⟩ = some (.int .i64 s.v) ∧ wr.cell? ⟨b, off + k * 4 + 3, none⟩ = some (.int .i64 s.t)) := hide fun k wr hk g => by
    obtain ⟨b, off, s, cs, e, ha, ecs, hcs⟩ := row_get hr hk
    have ecs : cs = [.int .i64 s.k, .int .i64 s.c, .int .i64 s.v, .int .i64 s.t] := ecs
    subst ecs
    exact ⟨b, off, s, e, by rw [hf]; simp [ha], hcs wr g 0 _ rfl, hcs wr g 1 _ rfl, hcs wr g 2 _ rfl, hcs wr g 3 _ rfl⟩
  have ST := hide (mki_start w n f)
  have AD : Hid (∀ k wr s, MkI w n k f wr → k < n → f k = Ca.t s → ∃ u, (wr.alloc (.cells #[.int .i64 s.k, .int .i64 s.c, .int .i64 s.v, .int .i64 s.t] 43)).cell? ⟨w.heap.size, k, none⟩ = some u ∧ (wr.alloc (.cells #[.int .i64 s.k, .int .i64 s.c, .int .i64 s.v, .int .i64 s.t] 43)).frozen? ⟨w.heap.size, k, none⟩ = false ∧ w.heap.size ≠ wr.heap.size ∧ MkI w n (k + 1) f ((wr.alloc (.cells #[.int .i64 s.k, .int .i64 s.c, .int .i64 s.v, .int .i64 s.t] 43)).setCell ⟨w.heap.size, k, none⟩ (.int .i64 s.t))) := hide (fun k wr s H hk e => by
    have ga := G.alloc wr (.cells #[.int .i64 s.k, .int .i64 s.c, .int .i64 s.v, .int .i64 s.t] 43)
    have H2 : MkI w n k f (wr.alloc (.cells #[.int .i64 s.k, .int .i64 s.c, .int .i64 s.v, .int .i64 s.t] 43)) := ⟨H.g.trans ga, Nat.lt_of_lt_of_le H.lt ga.size, fun i hi => ga.cell (H.done i hi), fun i hi => ⟨by rw [World.cell?_of_block (a := ⟨w.heap.size, i, none⟩) (ga.block _ H.lt)]; exact (H.thr i hi).1, by rw [World.frozen?_of_block (a := ⟨w.heap.size, i, none⟩) (ga.block _ H.lt)]; exact (H.thr i hi).2⟩⟩
    obtain ⟨u, hu⟩ := Option.isSome_iff_exists.1 (H2.thr k hk).1
    refine ⟨u, hu, (H2.thr k hk).2, by have := H.lt; omega, ?_⟩
    have h3 := H2.step hk
    rw [e] at h3
    exact h3)
  have FI : Hid (∀ wr, MkI w n n f wr → LTo w (l.map Ca.t) (.returned (.slice (some ⟨w.heap.size, 0, none⟩) n n)) wr) := hide (fun wr H => ⟨_, rfl, H.isl (by omega) (l.map Ca.t) (by simp [hln]) (fun i x hx => by
    rw [List.getElem?_map] at hx
    rw [hf]
    simp only [hx, Option.getD_some]), H.g⟩)
  clear hr hln hf
  go_enter Tryz.func64, Tryz.ntmps64
  go_wp2_with fail
  go_loopw [11] (fun i wr => ∃ k : Nat, k ≤ n ∧ i = .int .i64 k ∧ Hid (MkI w n k f wr)) (fun i _ => n - (intOf i).toNat)
  case atStart => exact ⟨0, Nat.zero_le _, rfl, ST⟩
  case round =>
    obtain ⟨k, hk, rfl, H⟩ := hrel
    clear ST hmk
    by_cases hlt : k < n
    · obtain ⟨b, off, s, rfl, e, c0, c1, c2, c3⟩ := unhide RD k wr hlt (unhide H).g
      obtain ⟨u, hu, hfz, hne, HG⟩ := unhide AD k wr s (unhide H) hlt e
      replace HG := hide HG
      clear H FI RD AD e
      go_wp2_with fail
      go_roundw
      case rel => exact ⟨k + 1, by omega, by go_num, HG⟩
      case measure => simp [intOf]; omega
    · obtain rfl : k = n := by omega
      have K := hide (unhide FI wr (unhide H))
      clear H FI RD AD
      go_wp2_with fail
      refine bodyPost_ret (by simp [results, Tryz.results64, go_sem]; try rfl) rfl ?_
      exact unhide K
end Go.Proofs.YtnliooflpclcbaaGreatDoor
