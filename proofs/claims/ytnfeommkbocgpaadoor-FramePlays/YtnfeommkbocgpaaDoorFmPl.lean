/- What FramePlays calls beside package frame: Nums, Bit of the document's own; may, laid of gantlinelaw13; acts that came in. -/
import Derived.Test.YtnfeommkbocgpaaDoorFmAwake2
import Derived.Test.YtnfeommkbocgpaaDoorCodeOpen
import Derived.Test.YtnfeommkbocgpaaDoorCodeBig
namespace Go.Proofs.YtnfeommkbocgpaaDoor
open Go.RowKit Go.Maps Go.ChangeShapes Go.WideShapes Go.ChangeAt Go.Deep

set_option maxHeartbeats 1000000 in
theorem nums_eq (w : World) (l : List Int) (n : Nat) (ao ao' : Option Addr) (c c' : Nat) (h1 : RowAt elI w ao n c l) (h2 : RowAt elI w ao' n c' l) (hl : n ≤ 1000000) :
    Calls Tryd.prog 29 #[.slice ao n c, .slice ao' n c'] w fun e w' => e = .returned (.bool true) ∧ ∃ q, w' = w.drewN q := by
  have RD : Hid (∀ (k : Nat) (wr : World), k < n → G w wr → ∃ b off b' off' x, ao = some ⟨b, off, none⟩ ∧ ao' = some ⟨b', off', none⟩ ∧ wr.cell? ⟨b, off + k, none⟩ = some (.int .i64 x) ∧ wr.cell? ⟨b', off' + k, none⟩ = some (.int .i64 x)) := hide fun k wr hk g => by
    obtain ⟨b, off, a, cs, e, ha, ecs, hcs⟩ := row_get h1 hk
    obtain ⟨b', off', a', cs', e', ha', ecs', hcs'⟩ := row_get h2 hk
    obtain rfl : a = a' := Option.some.inj (ha.symm.trans ha')
    have ecs : cs = [.int .i64 a] := ecs
    have ecs' : cs' = [.int .i64 a] := ecs'
    subst ecs ecs'
    refine ⟨b, off, b', off', a, e, e', ?_, ?_⟩
    · have := hcs wr g 0 _ rfl
      simpa [elI] using this
    · have := hcs' wr g 0 _ rfl
      simpa [elI] using this
  clear h1 h2
  go_enter Tryd.func29, Tryd.ntmps29
  go_wp2_with fail
  go_loopw [5] (fun i wr => ∃ k : Nat, k ≤ n ∧ i = .int .i64 k ∧ Hid (∃ q, wr = w.drewN q)) (fun i _ => n - (intOf i).toNat)
  case atStart => exact ⟨0, Nat.zero_le _, rfl, hide ⟨0, rfl⟩⟩
  case round =>
    obtain ⟨k, hk, rfl, HW⟩ := hrel
    by_cases hlt : k < n
    · obtain ⟨b, off, b', off', x, rfl, rfl, d1, d2⟩ := unhide RD k wr hlt (by obtain ⟨q, hq⟩ := unhide HW; rw [hq]; exact G.drewN w q)
      clear RD
      go_wp2_with fail
      go_quiet (fail)
      go_wp2_with fail
      go_roundw
      case rel => exact ⟨k + 1, by omega, by go_num, hide (by obtain ⟨q, hq⟩ := unhide HW; rw [hq, World.drewN_drewN]; exact ⟨_, rfl⟩)⟩
      case measure => simp [intOf]; omega
    · obtain rfl : k = n := by omega
      clear RD
      go_wp2_with fail
      go_ret
      exact ⟨rfl, unhide HW⟩
set_option maxHeartbeats 400000 in
theorem rb_any (x i : Nat) (w : World) (hx : x < 18446744073709551616) (hi : i < 64) :
    Calls Tryd.prog 30 #[.int .u64 (x : Int), .int .i64 (i : Int)] w fun e w' => e = .returned (.bool (x.testBit i)) ∧ w' = w := by
  have e := bitx_eq x i hx
  go_enter Tryd.func30, Tryd.ntmps30
  go_wp2
  go_ret
  exact ⟨by simp, rfl⟩
/-- Params and Caught are small. -/
def PcOk (m : Md) : Prop := ∀ f ∈ m.fn, 0 ≤ f.p ∧ f.p ≤ 64 ∧ 0 ≤ f.c ∧ f.c ≤ 64
def mayB (m : Md) (k : Int) (n : Nat) : Bool := match fmAt m k with
  | none => false
  | some f => tkP f n
theorem fmAt_mem {m : Md} {k : Int} {f : Fn} (h : fmAt m k = some f) : f ∈ m.fn := by
  unfold fmAt at h
  split at h
  · cases h
  · exact List.mem_of_getElem? h
theorem fmAt_in {m : Md} {k : Int} {f : Fn} (h : fmAt m k = some f) : ∃ j : Nat, k = j ∧ m.fn[j]? = some f := by
  unfold fmAt at h
  split at h
  · cases h
  · exact ⟨k.toNat, by omega, h⟩
set_option maxHeartbeats 2000000 in
theorem may_any (w : World) (mv : Value) (m : Md) (h : ModAt w mv m) (hp : PcOk m) (k : Int) (ao : Option Addr) (n c : Nat) :
    Calls Tryd.prog 14 #[mv, .int .i64 k, .slice ao n c] w fun e w' => e = .returned (.bool (mayB m k n)) ∧ G w w' := by
  obtain ⟨so, sc, go, gc, co, cc, mo_, mc_, fo, fc, rfl, _, _, _, _, r5⟩ := h
  have K : ∀ b : Bool, (mayB m k n = b) → ∀ w', G w w' → (Ending.returned (.bool b) = .returned (.bool (mayB m k n)) ∧ G w w') := fun b h w' g => ⟨by rw [h], g⟩
  by_cases h0 : k < 0
  · have E := hide (K false (by unfold mayB fmAt; rw [if_pos h0]))
    clear K r5 hp
    go_enter Tryd.func14, Tryd.ntmps14
    go_wp2_with fail
    go_ret
    exact unhide E _ (G.alloc _ _)
  by_cases h1 : (m.fn.length : Int) ≤ k
  · have E := hide (K false (by unfold mayB fmAt; rw [if_neg h0, List.getElem?_eq_none (by omega)]))
    clear K r5 hp
    go_enter Tryd.func14, Tryd.ntmps14
    go_wp2_with fail
    go_ret
    exact unhide E _ (G.alloc _ _)
  obtain ⟨j, rfl⟩ : ∃ j : Nat, k = j := ⟨k.toNat, by omega⟩
  have hj : j < m.fn.length := by omega
  obtain ⟨b, off, a, cs, rfl, ha, ecs, hcs⟩ := row_get r5 hj
  obtain ⟨ko, kc, io, ic, mo, mc, rfl, _⟩ := ecs
  have hpa := hp a (List.mem_of_getElem? ha)
  have hmay : mayB m (j : Int) n = tkP a n := by unfold mayB fmAt; rw [if_neg h0, Int.toNat_natCast, ha]
  obtain ⟨W2, hW2⟩ : ∃ W2, W2 = w.alloc (.cells #[.slice so m.sh.length sc, .slice go m.gl.length gc, .slice co m.co.length cc, .slice mo_ m.ca.length mc_, .slice (some ⟨b, off, none⟩) m.fn.length fc, .int .i64 m.main] 33) := ⟨_, rfl⟩
  have gW : G w W2 := by rw [hW2]; exact G.alloc _ _
  have c0 := hcs W2 gW 0 _ rfl
  have c1 := hcs W2 gW 1 _ rfl
  have c2 := hcs W2 gW 2 _ rfl
  have c3 := hcs W2 gW 3 _ rfl
  have c4 := hcs W2 gW 4 _ rfl
  have c5 := hcs W2 gW 5 _ rfl
  have c6 := hcs W2 gW 6 _ rfl
  change W2.cell? ⟨b, off + j * 7, none⟩ = _ at c0
  change W2.cell? ⟨b, off + j * 7 + 1, none⟩ = _ at c1
  change W2.cell? ⟨b, off + j * 7 + 2, none⟩ = _ at c2
  change W2.cell? ⟨b, off + j * 7 + 3, none⟩ = _ at c3
  change W2.cell? ⟨b, off + j * 7 + 4, none⟩ = _ at c4
  change W2.cell? ⟨b, off + j * 7 + 5, none⟩ = _ at c5
  change W2.cell? ⟨b, off + j * 7 + 6, none⟩ = _ at c6
  have hlen : W2.cell? ⟨w.heap.size, 4, none⟩ = some (.slice (some ⟨b, off, none⟩) m.fn.length fc) := by rw [hW2]; simp [go_sem]
  have hji : (j : Int) < (m.fn.length : Int) := by omega
  obtain ⟨p, q, s, r, ks, is, ms⟩ := a
  simp only at c0 c1 c2 c3 c4 c5 c6 hpa
  rw [hmay] at K
  rw [hmay]
  have KG : Hid (∀ b : Bool, tkP ⟨p, q, s, r, ks, is, ms⟩ n = b → ∀ o, (Ending.returned (.bool b) = .returned (.bool (tkP ⟨p, q, s, r, ks, is, ms⟩ n)) ∧ G w (W2.alloc o))) := hide fun b h o => K b h _ (gW.more o)
  clear hcs ha r5 hp K hmay gW h0 h1 hj
  obtain ⟨hp1, hp2, hp3, hp4⟩ := hpa
  have hw : wrap64 (p + q) = p + q := by unfold wrap64; omega
  by_cases g1 : s < 0
  · have E := hide (unhide KG false (by unfold tkP; simp; omega))
    clear KG
    go_enter Tryd.func14, Tryd.ntmps14
    go_upto_region 1 with fail
    rw [← hW2]
    clear hW2
    go_wp2_with fail
    go_ret
    exact unhide E _
  by_cases g2 : 64 < s
  · have E := hide (unhide KG false (by unfold tkP; simp; omega))
    clear KG
    go_enter Tryd.func14, Tryd.ntmps14
    go_upto_region 1 with fail
    rw [← hW2]
    clear hW2
    go_wp2_with fail
    go_ret
    exact unhide E _
  by_cases g3 : s < (n : Int)
  · have E := hide (unhide KG false (by unfold tkP; simp; omega))
    clear KG
    go_enter Tryd.func14, Tryd.ntmps14
    go_upto_region 1 with fail
    rw [← hW2]
    clear hW2
    go_wp2_with fail
    go_ret
    exact unhide E _
  have g3' : ¬ s < (n : Int) := g3
  by_cases g4 : p + q = (n : Int)
  · have E := hide (unhide KG true (by unfold tkP; simp; omega))
    have hb : (p + q == (n : Int)) = true := by simpa using g4
    clear KG g4
    go_enter Tryd.func14, Tryd.ntmps14
    go_upto_region 1 with fail
    rw [← hW2]
    clear hW2
    go_wp2_with fail
    go_ret
    exact unhide E _
  · have E := hide (unhide KG false (by unfold tkP; simp; omega))
    have hb : (p + q == (n : Int)) = false := by simpa using g4
    clear KG g4
    go_enter Tryd.func14, Tryd.ntmps14
    go_upto_region 1 with fail
    rw [← hW2]
    clear hW2
    go_wp2_with fail
    go_ret
    exact unhide E _
end Go.Proofs.YtnfeommkbocgpaaDoor
