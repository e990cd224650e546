/- placesIn and Follows of package live. -/
import Derived.Test.YtnliooflpclcbaaGreatDoorLiveSort
import Derived.Test.YtnliooflpclcbaaGreatDoorLiveTgt
namespace Go.Proofs.YtnliooflpclcbaaGreatDoor
set_option maxRecDepth 100000
open Go.RowKit Go.Maps Go.ChangeShapes Go.WideShapes Go.ChangeAt Go.Deep

abbrev agF (f : Fn) (ko : Option Addr) (kc : Nat) (io : Option Addr) (ic : Nat) (mo : Option Addr) (mc : Nat) : Value := .agg #[.int .i64 f.p, .int .i64 f.c, .int .i64 f.s, .int .i64 f.r, .slice ko f.ks.length kc, .slice io f.is.length ic, .slice mo f.ms.length mc]
theorem Below.G' {w x y : World} (g : G w x) (b : Below w.heap.size x y) : G w y := ⟨b.os.trans g.os, b.tape.trans g.tape, b.output.trans g.output, Nat.le_trans g.size b.size, fun q hq => (b.block q hq).trans (g.block q hq)⟩

set_option maxHeartbeats 1000000 in
theorem places_any (w : World) (f : Fn) (ko : Option Addr) (kc : Nat) (io : Option Addr) (ic : Nat) (mo : Option Addr) (mc : Nat) (v : Value) (l : List Int) (h : IsL w v l) (hn : l.length ≤ 1000000) :
    Calls Tryz.prog 63 #[agF f ko kc io ic mo mc, v] w (FTo w (plP f.is.length l)) := by
  unfold agF
  obtain ⟨ao, c, rfl, hc, hget⟩ := h.get
  obtain ⟨n, hln⟩ : ∃ n, n = l.length := ⟨_, rfl⟩
  obtain ⟨N, hN⟩ : ∃ N, N = f.is.length := ⟨_, rfl⟩
  obtain ⟨W1, hW1⟩ : ∃ W1, W1 = w.alloc (.cells #[.int .i64 f.p, .int .i64 f.c, .int .i64 f.s, .int .i64 f.r, .slice ko f.ks.length kc, .slice io f.is.length ic, .slice mo f.ms.length mc] 39) := ⟨_, rfl⟩
  have gW : G w W1 := by rw [hW1]; exact G.alloc _ _
  have hcode : W1.cell? ⟨w.heap.size, 5, none⟩ = some (.slice io f.is.length ic) := by rw [hW1]; simp [go_sem]
  have RD : Hid (∀ (k : Nat) (wr : World) (vb : Value), k < n → (OwnL wr W1.heap.size vb ((l.take k).filter (inC N)) ∧ G W1 wr) → ∃ (b off : Nat) (a : Int), ao = some ⟨b, off, none⟩ ∧ wr.cell? ⟨b, off + k, none⟩ = some (.int .i64 a) ∧ wr.cell? ⟨w.heap.size, 5, none⟩ = some (.slice io f.is.length ic) ∧
      (inC N a = false → OwnL wr W1.heap.size vb ((l.take (k + 1)).filter (inC N)) ∧ G W1 wr) ∧
      (inC N a = true → ∃ v' w', (Builtin.append_ #[55, 55] 55 #[vb, .slice (some ⟨wr.heap.size, 0, none⟩) 1 1]).run Tryz.prog (wr.alloc (.cells #[.int .i64 a] 3)) = .ok v' w' ∧ OwnL w' W1.heap.size v' ((l.take (k + 1)).filter (inC N)) ∧ G W1 w')) := hide fun k wr vb hk HW => by
    obtain ⟨b, off, a, e, ha, hx⟩ := hget k (by omega)
    refine ⟨b, off, a, e, hx wr (gW.trans HW.2), HW.2.cell hcode, fun h1 => ?_, fun h1 => ?_⟩
    · rw [List.take_add_one, ha, List.filter_append]
      have : ([a] : List Int).filter (inC N) = [] := by simp [h1]
      simp only [Option.toList_some, this, List.append_nil]
      exact HW
    · obtain ⟨v', w', r1, r2, r3⟩ := own_app1 a HW.1 HW.2.size (by have := List.length_filter_le (inC N) (l.take k); rw [List.length_take] at this; omega)
      refine ⟨v', w', r1, ?_, Below.G' HW.2 r3⟩
      rw [List.take_add_one, ha, List.filter_append]
      have : ([a] : List Int).filter (inC N) = [a] := by simp [h1]
      simp only [Option.toList_some, this]
      exact r2
  have ST : Hid (OwnL W1 W1.heap.size (.slice none 0 0) ((l.take 0).filter (inC N)) ∧ G W1 W1) := hide ⟨ownl_nil _ _, G.refl W1⟩
  have SO : Hid (∀ wr vb, (OwnL wr W1.heap.size vb ((l.take n).filter (inC N)) ∧ G W1 wr) → Calls Tryz.prog 76 #[vb] wr fun e w' => e = .returned (.tuple #[]) ∧ (RowS w' W1.heap.size vb (srtL (l.filter (inC N))) ∧ G W1 w')) := hide fun wr vb HW => by
    rw [List.take_of_length_le (by omega)] at HW
    refine (sort_own HW.1.rows (by have := List.length_filter_le (inC N) l; omega)).mono ?_
    rintro e w' ⟨rfl, h1, h2⟩
    exact ⟨rfl, h1, Below.G' HW.2 h2⟩
  have CO : Hid (∀ wr vb, (RowS wr W1.heap.size vb (srtL (l.filter (inC N))) ∧ G W1 wr) → Calls Tryz.prog 77 #[vb] wr fun e w' => ∃ v', e = .returned v' ∧ FTo w (plP N l) (.returned v') w') := hide fun wr vb HW => by
    refine (compact_own HW.1 (by rw [srtL_len]; have := List.length_filter_le (inC N) l; omega)).mono ?_
    rintro e w' ⟨v', rfl, h1, h2⟩
    rw [places_eq] at h1
    exact ⟨v', rfl, v', rfl, h1.mono gW.size, gW.trans (Below.G' HW.2 h2)⟩
  have HB : Hid (∀ a, inC N a = true → (0 : Int) ≤ a ∧ a < (f.is.length : Int)) := hide (fun a h => by unfold inC at h; simp at h; rw [← hN]; exact h)
  have HB2 : Hid (∀ a, inC N a = false → (0 : Int) ≤ a → ¬ a < (f.is.length : Int)) := hide (fun a h h0 => by unfold inC at h; simp [h0] at h; rw [← hN]; omega)
  have hnn : n ≤ 1000000 := by omega
  rw [← hln]
  rw [← hN]
  rw [← hN] at HB HB2 RD hW1 hcode
  clear h hget hn hln hN gW
  go_enter Tryz.func63, Tryz.ntmps63
  go_upto_region 1 with fail
  rw [← hW1]
  clear hW1
  go_wp2_with fail
  go_loopw [5, 10] (fun b i wr => ∃ k : Nat, k ≤ n ∧ i = .int .i64 k ∧ Hid (OwnL wr W1.heap.size b ((l.take k).filter (inC N)) ∧ G W1 wr)) (fun _ i _ => n - (intOf i).toNat)
  case atStart => exact ⟨0, Nat.zero_le _, rfl, ST⟩
  case round =>
    obtain ⟨k, hk, rfl, HW⟩ := hrel
    clear ST hcode
    by_cases hlt : k < n
    · obtain ⟨b, off, a, rfl, hc0, hc5, h1, h2⟩ := unhide RD k wr _ hlt (unhide HW)
      replace h1 := hide h1
      replace h2 := hide h2
      clear HW SO CO RD
      cases hq : inC N a
      · have HG := hide (unhide h1 hq)
        by_cases h0 : (0 : Int) ≤ a
        · have h3 := unhide HB2 a hq h0
          clear h1 h2 hq HB HB2
          go_wp2_with fail
          go_roundw
          case rel => exact ⟨k + 1, by omega, by go_num, HG⟩
          case measure => simp [intOf]; omega
        · clear h1 h2 hq HB HB2
          go_wp2_with fail
          go_roundw
          case rel => exact ⟨k + 1, by omega, by go_num, HG⟩
          case measure => simp [intOf]; omega
      · have AP := hide (unhide h2 hq)
        obtain ⟨h3, h4⟩ := unhide HB a hq
        clear h1 h2 hq HB HB2
        go_wp2_with (at_builtin; obtain ⟨v', w', hrun, HG⟩ := unhide AP; replace HG := hide HG; refine wpl_run rfl (.tmp 23) (.tmp 25) 55 rfl _ _ rfl rfl _ _ hrun ?_; clear hrun AP)
        go_roundw
        case rel => exact ⟨k + 1, by omega, by go_num, HG⟩
        case measure => simp [intOf]; omega
    · obtain rfl : k = n := by omega
      have S1 := hide (unhide SO wr _ (unhide HW))
      clear HW RD SO HB HB2
      go_wp2_with fail
      refine (unhide S1).mono ?_
      rintro e w2 ⟨rfl, HR⟩
      have C1 := hide (unhide CO w2 _ HR)
      clear HR S1 CO
      go_wp2_with fail
      refine (unhide C1).mono ?_
      rintro e w3 ⟨v', rfl, HL⟩
      replace HL := hide HL
      clear C1
      go_wp2_with fail
      refine bodyPost_ret (by simp [results, Tryz.results63, go_sem]; try rfl) rfl ?_
      exact unhide HL
end Go.Proofs.YtnliooflpclcbaaGreatDoor
