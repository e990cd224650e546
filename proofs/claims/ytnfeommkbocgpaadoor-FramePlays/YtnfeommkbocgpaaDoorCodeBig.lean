/- gantlineref17.Big. -/
import Derived.Test.YtnfeommkbocgpaaDoorCodeMem
namespace Go.Proofs.YtnfeommkbocgpaaDoor
open Go.RowKit Go.Maps Go.ChangeShapes Go.WideShapes Go.ChangeAt Go.Deep

/-- A function that is not big; a module that is not. -/
def smFn (f : Fn) : Prop := f.is.length ≤ 200 ∧ f.ms.length ≤ 300 ∧ f.ks.length ≤ 100
def smMd (m : Md) : Prop := m.sh.length ≤ 40 ∧ m.gl.length ≤ 300 ∧ m.co.length ≤ 100 ∧ m.ca.length ≤ 60 ∧ m.fn.length ≤ 20 ∧ ∀ f ∈ m.fn, smFn f
/-- What Big tells. -/
def BigTo (m : Md) (w w' : World) (e : Ending) : Prop := ∃ q : Bool, e = .returned (.bool q) ∧ (q = false → smMd m) ∧ G w w'

set_option maxHeartbeats 2000000 in
theorem big_raw (w : World) (m : Md) (so : Option Addr) (sc : Nat) (go : Option Addr) (gc : Nat) (co : Option Addr) (cc : Nat) (ao : Option Addr) (ac : Nat) (fo : Option Addr) (fc : Nat) (r5 : RowAt elFn w fo m.fn.length fc m.fn) :
    Calls Tryd.prog 13 #[.agg #[.slice so m.sh.length sc, .slice go m.gl.length gc, .slice co m.co.length cc, .slice ao m.ca.length ac, .slice fo m.fn.length fc, .int .i64 m.main]] w fun e w' => BigTo m w w' e := by
  obtain ⟨n1, hn1⟩ : ∃ n, n = m.sh.length := ⟨_, rfl⟩
  obtain ⟨n2, hn2⟩ : ∃ n, n = m.gl.length := ⟨_, rfl⟩
  obtain ⟨n3, hn3⟩ : ∃ n, n = m.co.length := ⟨_, rfl⟩
  obtain ⟨n4, hn4⟩ : ∃ n, n = m.ca.length := ⟨_, rfl⟩
  obtain ⟨n5, hn5⟩ : ∃ n, n = m.fn.length := ⟨_, rfl⟩
  have B := hide (fun x (gx : G w x) => (show BigTo m w x (.returned (.bool true)) from ⟨true, rfl, (fun h => by cases h), gx⟩))
  have YS := hide (fun x (gx : G w x) (h : smMd m) => (show BigTo m w x (.returned (.bool false)) from ⟨false, rfl, fun _ => h, gx⟩))
  rw [← hn5] at r5
  have hmax : n5 ≤ 9223372036854775807 := r5.2.1
  have R5 := hide r5
  rw [← hn1, ← hn2, ← hn3, ← hn4, ← hn5]
  have HN := hide (show n1 = m.sh.length ∧ n2 = m.gl.length ∧ n3 = m.co.length ∧ n4 = m.ca.length ∧ n5 = m.fn.length from ⟨hn1, hn2, hn3, hn4, hn5⟩)
  clear r5 hn1 hn2 hn3 hn4 hn5
  by_cases h0 : 40 < n1
  · have hi0 : (40 : Int) < (n1 : Int) := by omega
    clear R5 YS
    go_enter Tryd.func13, Tryd.ntmps13
    go_wp2_with fail
    go_ret
    exact unhide B _ ((G.refl w).more _)
  have hi0 : ¬ (40 : Int) < (n1 : Int) := by omega
  by_cases h1 : 300 < n2
  · have hi1 : (300 : Int) < (n2 : Int) := by omega
    clear R5 YS
    go_enter Tryd.func13, Tryd.ntmps13
    go_wp2_with fail
    go_ret
    exact unhide B _ ((G.refl w).more _)
  have hi1 : ¬ (300 : Int) < (n2 : Int) := by omega
  by_cases h2 : 100 < n3
  · have hi2 : (100 : Int) < (n3 : Int) := by omega
    clear R5 YS
    go_enter Tryd.func13, Tryd.ntmps13
    go_wp2_with fail
    go_ret
    exact unhide B _ ((G.refl w).more _)
  have hi2 : ¬ (100 : Int) < (n3 : Int) := by omega
  by_cases h3 : 60 < n4
  · have hi3 : (60 : Int) < (n4 : Int) := by omega
    clear R5 YS
    go_enter Tryd.func13, Tryd.ntmps13
    go_wp2_with fail
    go_ret
    exact unhide B _ ((G.refl w).more _)
  have hi3 : ¬ (60 : Int) < (n4 : Int) := by omega
  by_cases h4 : 20 < n5
  · have hi4 : (20 : Int) < (n5 : Int) := by omega
    clear R5 YS
    go_enter Tryd.func13, Tryd.ntmps13
    go_wp2_with fail
    go_ret
    exact unhide B _ ((G.refl w).more _)
  have hi4 : ¬ (20 : Int) < (n5 : Int) := by omega
  have RD : Hid (∀ k, k < n5 → ∃ (f : Fn) (b off : Nat) (ko : Option Addr) (kc : Nat) (io : Option Addr) (ic : Nat) (mo : Option Addr) (mc : Nat), m.fn[k]? = some f ∧ fo = some ⟨b, off, none⟩ ∧ (∀ o, (w.alloc o).cell? ⟨b, off + k * 7 + 4, none⟩ = some (.slice ko f.ks.length kc)) ∧ (∀ o, (w.alloc o).cell? ⟨b, off + k * 7 + 5, none⟩ = some (.slice io f.is.length ic)) ∧ ∀ o, (w.alloc o).cell? ⟨b, off + k * 7 + 6, none⟩ = some (.slice mo f.ms.length mc)) := hide fun k hk => by
    have h5 := unhide R5
    rcases h5.2.2.2 with hz | ⟨b, off, e, hb, hc⟩
    · omega
    obtain ⟨x, hx⟩ : ∃ x, m.fn[k]? = some x := ⟨m.fn[k]'(by have := h5.1; omega), List.getElem?_eq_getElem _⟩
    obtain ⟨cs, ⟨ko, kc, io, ic, mo, mc, ecs, _⟩, hcs⟩ := hc k x hx
    subst ecs
    exact ⟨x, b, off, ko, kc, io, ic, mo, mc, hx, e, fun o => (G.alloc w o).cell (hcs 4 _ rfl), fun o => (G.alloc w o).cell (hcs 5 _ rfl), fun o => (G.alloc w o).cell (hcs 6 _ rfl)⟩
  have ND : Hid ((∀ f ∈ m.fn, smFn f) → smMd m) := hide fun h => by
    obtain ⟨e1, e2, e3, e4, e5⟩ := unhide HN
    exact ⟨by omega, by omega, by omega, by omega, by omega, h⟩
  have AL : Hid ((∀ (i : Nat) f, i < n5 → m.fn[i]? = some f → smFn f) → ∀ f ∈ m.fn, smFn f) := hide fun h f hf => by
    obtain ⟨i, hi⟩ := List.mem_iff_getElem?.1 hf
    have h5 := (List.getElem?_eq_some_iff.1 hi).1
    exact h i f (by have := (unhide HN).2.2.2.2; omega) hi
  clear R5 HN
  go_enter Tryd.func13, Tryd.ntmps13
  go_wp2_with fail
  go_loop [3] (fun i => ∃ k : Nat, k ≤ n5 ∧ i = .int .i64 k ∧ Hid (∀ (j : Nat) f, j < k → m.fn[j]? = some f → smFn f)) (fun i => n5 - (intOf i).toNat)
  case atStart => exact ⟨0, Nat.zero_le _, rfl, hide (fun j f hj => by omega)⟩
  case round =>
    obtain ⟨k, hk, rfl, HA⟩ := hrel
    by_cases hlt : k < n5
    · obtain ⟨f, b, off, ko, kc, io, ic, mo, mc, hf, rfl, q4, q5, q6⟩ := unhide RD k hlt
      obtain ⟨a1, ha1⟩ : ∃ a, a = f.is.length := ⟨_, rfl⟩
      obtain ⟨a2, ha2⟩ : ∃ a, a = f.ms.length := ⟨_, rfl⟩
      obtain ⟨a3, ha3⟩ : ∃ a, a = f.ks.length := ⟨_, rfl⟩
      rw [← ha3] at q4
      rw [← ha1] at q5
      rw [← ha2] at q6
      have NX : Hid (a1 ≤ 200 → a2 ≤ 300 → a3 ≤ 100 → ∀ (j : Nat) g, j < k + 1 → m.fn[j]? = some g → smFn g) := hide fun e1 e2 e3 j g hj hg => by
        by_cases e : j = k
        · rw [e, hf] at hg
          rw [← Option.some.inj hg]
          exact ⟨by omega, by omega, by omega⟩
        · exact unhide HA j g (by omega) hg
      clear hf ha1 ha2 ha3 RD HA
      by_cases t0 : 200 < a1
      · have ti0 : (200 : Int) < (a1 : Int) := by omega
        clear YS ND AL NX
        go_wp2_with fail
        go_ret
        exact unhide B _ ((G.refl w).more _)
      have ti0 : ¬ (200 : Int) < (a1 : Int) := by omega
      by_cases t1 : 300 < a2
      · have ti1 : (300 : Int) < (a2 : Int) := by omega
        clear YS ND AL NX
        go_wp2_with fail
        go_ret
        exact unhide B _ ((G.refl w).more _)
      have ti1 : ¬ (300 : Int) < (a2 : Int) := by omega
      by_cases t2 : 100 < a3
      · have ti2 : (100 : Int) < (a3 : Int) := by omega
        clear YS ND AL NX
        go_wp2_with fail
        go_ret
        exact unhide B _ ((G.refl w).more _)
      have ti2 : ¬ (100 : Int) < (a3 : Int) := by omega
      have HA2 := hide (unhide NX (by omega) (by omega) (by omega))
      clear NX
      go_wp2_with fail
      go_round
      case rel => exact ⟨k + 1, by omega, by go_num, HA2⟩
      case measure => simp [intOf]; omega
    · obtain rfl : k = n5 := by omega
      have F := hide (unhide ND (unhide AL (unhide HA)))
      clear HA RD ND AL
      go_wp2_with fail
      go_ret
      exact unhide YS _ ((G.refl w).more _) (unhide F)
theorem big_any (w : World) (v : Value) (m : Md) (h : ModAt w v m) : Calls Tryd.prog 13 #[v] w fun e w' => BigTo m w w' e := by
  obtain ⟨so, sc, go, gc, co, cc, ao, ac, fo, fc, rfl, _, _, _, _, r5⟩ := h
  exact big_raw w m so sc go gc co cc ao ac fo fc r5
end Go.Proofs.YtnfeommkbocgpaaDoor
