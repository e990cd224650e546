/- Here: Fields, Step, Reach of package mark; what the laws know of world. -/
import Derived.Test.YtinehimleldkdaaGreatDoorMgM
import Derived.Shelf.SortM.Plain
import Derived.Shelf.SortM.SortNone
import Derived.Shelf.SlGeneric
import Derived.Ground.SlgmProg
import Derived.Test.YtinehimleldkdaaGreatDoorMarkObj
import Derived.Deep.Strs
/- The contract of mark's Fields. -/
namespace Go.Proofs.YtinehimleldkdaaGreatDoor
set_option maxRecDepth 100000
open Go.ChangeShapes Go.WideShapes Go.ChangeAt Go.RowKit Go.Maps

/-- The first j of the fields. -/
def fldP (k : Int) (m n : Nat) (wd : Nat → Int) (j : Nat) : List Int := (List.range j).filterMap fun (f : Nat) => if Hd.holdsB k m (f : Int) (n : Int) = true ∧ wd (1 + f) ≠ 0 then some (wd (1 + f)) else none
theorem fldP_all (k : Int) (m n : Nat) (wd : Nat → Int) : fldP k m n wd (n - 1) = fldL k m n wd := rfl
theorem fldP_no {k : Int} {m n : Nat} {wd : Nat → Int} {j : Nat} (h : ¬ (Hd.holdsB k m (j : Int) (n : Int) = true ∧ wd (1 + j) ≠ 0)) : fldP k m n wd (j + 1) = fldP k m n wd j := by
  unfold fldP
  rw [List.range_succ, List.filterMap_append]
  simp only [List.filterMap_cons, List.filterMap_nil, if_neg h, List.append_nil]
theorem fldP_yes {k : Int} {m n : Nat} {wd : Nat → Int} {j : Nat} (h : Hd.holdsB k m (j : Int) (n : Int) = true ∧ wd (1 + j) ≠ 0) : fldP k m n wd (j + 1) = fldP k m n wd j ++ [wd (1 + j)] := by
  unfold fldP
  rw [List.range_succ, List.filterMap_append]
  simp only [List.filterMap_cons, List.filterMap_nil, if_pos h]
theorem fldP_len (k : Int) (m n : Nat) (wd : Nat → Int) (j : Nat) : (fldP k m n wd j).length ≤ j := by
  unfold fldP
  exact Nat.le_trans (List.length_filterMap_le _ _) (by simp)

/-- While a row is filled, a variable of three cells beside. -/
structure FlS (w wr : World) (sb : Nat) (s : Hd.Shp) (ao : Option Addr) (cap : Nat) (ys : List Int) : Prop where
  g : G w wr
  row : Gy.RowW wr w.heap.size ao cap ys
  sh : Rv wr sb (.int .i64 s.k) (.int .i64 s.f) (.int .u64 (s.m : Int))
  lo : w.heap.size ≤ sb
  nb : sb ∉ Gy.blk ao
section
variable {w wr wr' : World} {sb : Nat} {s : Hd.Shp} {ao ao' : Option Addr} {cap cap' : Nat} {ys ys' : List Int}
theorem FlS.gr (h : FlS w wr sb s ao cap ys) (g : G wr wr') : FlS w wr' sb s ao cap ys :=
  ⟨h.g.trans g, h.row.kept fun d hd => g.block d (h.row.lo d hd).2, h.sh.gr g, h.lo, h.nb⟩
theorem FlS.app (h : FlS w wr sb s ao cap ys) (a : Gy.App wr wr' w.heap.size ao ao' cap' ys') : FlS w wr' sb s ao' cap' ys' := by
  obtain ⟨r, hb, gx⟩ := a
  have ks : wr'.heap[sb]? = wr.heap[sb]? := gx.block sb h.sh.lt h.nb
  refine ⟨⟨gx.os.trans h.g.os, gx.tape.trans h.g.tape, gx.output.trans h.g.output, Nat.le_trans h.g.size gx.size, fun k hk => ?_⟩, r, ?_, h.lo, ?_⟩
  · exact (gx.block k (Nat.lt_of_lt_of_le hk h.g.size) fun hm => by have := (h.row.lo k hm).1; omega).trans (h.g.block k hk)
  · exact ⟨(World.cell?_of_block (a := ⟨sb, 0, none⟩) ks).trans h.sh.c0, (World.cell?_of_block (a := ⟨sb, 1, none⟩) ks).trans h.sh.c1, (World.cell?_of_block (a := ⟨sb, 2, none⟩) ks).trans h.sh.c2, fun i => (World.frozen?_of_block (a := ⟨sb, i, none⟩) ks).trans (h.sh.f i)⟩
  · have := h.sh.lt
    rcases hb with e | e
    · rw [e]; exact h.nb
    · rw [e]; simp; omega
end

set_option maxHeartbeats 4000000 in
theorem m_fields_core (w : World) (mk : Nat) (x : Int) (s : Hd.Shp) (n : Nat) (hn : n ≤ 64) (hm : s.m < 18446744073709551616) (wd : Nat → Int)
    (ho : Hid (∀ w1, G w w1 → Calls Tryz.prog 41 #[.pointer (some ⟨mk, 0, none⟩), .int .i64 x] w1 fun r w' => r = .returned (.tuple #[.agg #[.int .i64 s.k, .int .i64 s.f, .int .u64 (s.m : Int)], .int .i64 (n : Int)]) ∧ G w1 w'))
    (hf : Hid (∀ j : Nat, j < n - 1 → ∀ w1, G w w1 → Calls Tryz.prog 43 #[.pointer (some ⟨mk, 0, none⟩), .int .i64 x, .int .i64 (j : Int)] w1 fun r w' => r = .returned (.int .i64 (wd (1 + j))) ∧ G w1 w')) :
    Calls Tryz.prog 12 #[.pointer (some ⟨mk, 0, none⟩), .int .i64 x] w fun r w' => ∃ ao cap, r = .returned (.slice ao (fldL s.k s.m n wd).length cap) ∧ Gy.RowW w' w.heap.size ao cap (fldL s.k s.m n wd) ∧ G w w' := by
  go_enter Tryz.func12, Tryz.ntmps12
  go_wp2_with fail
  refine (unhide ho _ (G.refl w)).mono ?_
  rintro r w1 ⟨rfl, g1⟩
  have S0 : Hid (FlS w (w1.alloc (.cells #[.int .i64 s.k, .int .i64 s.f, .int .u64 (s.m : Int)] 73)) w1.heap.size s none 0 (fldP s.k s.m n wd 0)) := hide ⟨g1.more _, Gy.RowW.nil _ _, Rv.new _ _ _ _ _, g1.size, by simp [Gy.blk]⟩
  clear g1 ho
  go_wp2_with fail
  generalize w1.heap.size = sb at *
  go_loopw [7, 18] (fun v i wr => ∃ (j : Nat) (ao : Option Addr) (cap k : Nat), v = .slice ao k cap ∧ i = .int .i64 (j : Int) ∧ j ≤ n - 1 ∧ Hid ((fldP s.k s.m n wd j).length = k) ∧ Hid (FlS w wr sb s ao cap (fldP s.k s.m n wd j)))
    (fun _ i _ => n - (intOf i).toNat)
  case atStart => exact ⟨0, none, 0, 0, rfl, rfl, Nat.zero_le _, hide rfl, S0⟩
  case round =>
    obtain ⟨j, ao, cap, k, rfl, rfl, hj, hk, S⟩ := hrel
    clear S0
    obtain ⟨c0, c1, c2, _⟩ := (unhide S).sh
    have hsl := (unhide S).sh.lt
    by_cases hlt : (j : Int) < (n : Int) - 1
    · have C := hide (fun w1 => Hd.holds_any s.k s.f s.m (j : Int) (n : Int) w1 hm (by omega))
      obtain ⟨b, hb⟩ : ∃ b, Hd.holdsB s.k s.m (j : Int) (n : Int) = b := ⟨_, rfl⟩
      rw [hb] at C
      go_wp2_with fail
      refine (unhide C _).mono ?_
      rintro r w2 ⟨rfl, g2⟩
      replace S := hide ((unhide S).gr g2)
      clear c0 c1 c2 g2 C hsl
      cases b
      · go_wp2_with fail
        go_roundw
        case rel => exact ⟨j + 1, ao, cap, k, rfl, by go_num, by omega, hide (by rw [fldP_no (by rw [hb]; simp)]; exact unhide hk), hide (by rw [fldP_no (by rw [hb]; simp)]; exact unhide S)⟩
        case measure => simp [intOf]; omega
      · have CF := hide (unhide hf j (by omega))
        obtain ⟨v, hv⟩ : ∃ v, wd (1 + j) = v := ⟨_, rfl⟩
        rw [hv] at CF
        go_wp2_with fail
        refine (unhide CF _ (unhide S).g).mono ?_
        rintro r w3 ⟨rfl, g3⟩
        replace S := hide ((unhide S).gr g3)
        clear g3 CF
        by_cases hv0 : v = 0
        · subst hv0
          go_wp2_with fail
          go_roundw
          case rel => exact ⟨j + 1, ao, cap, k, rfl, by go_num, by omega, hide (by rw [fldP_no (by rw [hv]; simp)]; exact unhide hk), hide (by rw [fldP_no (by rw [hv]; simp)]; exact unhide S)⟩
          case measure => simp [intOf]; omega
        · have hvb : (v != 0) = true := by simpa using hv0
          have hlen := fldP_len s.k s.m n wd j
          obtain ⟨k2, hk2⟩ : ∃ k2, k + 1 = k2 := ⟨_, rfl⟩
          replace hk2 := hide hk2
          have S4 := hide ((unhide S).gr (G.alloc w3 (.cells #[.int .i64 v] 2)))
          have hx : Hid ((w3.alloc (.cells #[.int .i64 v] 2)).cell? ⟨w3.heap.size, 0, none⟩ = some (.int .i64 v)) := hide (World.cell?_alloc_new _ _ _ 0)
          go_wp2_with (at_builtin; refine Gy.wpl_app rfl _ _ rfl k k2 (unhide hk) (unhide hk2) rfl (unhide S4).row (unhide S4).g.size w3.heap.size 1 v rfl (unhide hx) (by omega) ?_; intro ao4 cap4 w4 A; have S5 := hide ((unhide S4).app A); clear A S4 S hx)
          go_roundw
          case rel => exact ⟨j + 1, ao4, cap4, k2, rfl, by go_num, by omega, hide (by rw [fldP_yes (by rw [hb, hv]; exact ⟨rfl, hv0⟩)]; have := unhide hk; have := unhide hk2; simp; omega), hide (by rw [fldP_yes (by rw [hb, hv]; exact ⟨rfl, hv0⟩), hv]; exact unhide S5)⟩
          case measure => simp [intOf]; omega
    · go_wp2_with fail
      go_ret
      have : j = n - 1 := by omega
      subst this
      rw [fldP_all] at hk S
      exact ⟨ao, cap, by rw [unhide hk]; rfl, (unhide S).row, (unhide S).g⟩
end Go.Proofs.YtinehimleldkdaaGreatDoor

/- slices.Sort at []int64. -/
namespace Go.Proofs.YtinehimleldkdaaGreatDoor
set_option maxRecDepth 100000
open Go.ChangeShapes Go.WideShapes Go.ChangeAt Go.RowKit Go.Maps Go.Sort
def sortLay_ren : Go.Shelf.Ren := ⟨fun | 5 => 45 | 8 => 79 | 7 => 78 | 19 => 107 | 20 => 108 | 10 => 98 | 11 => 99 | 12 => 100 | 13 => 101 | 14 => 102 | 15 => 103 | 16 => 104 | 17 => 105 | 18 => 106 | 30 => 115 | 31 => 116 | 32 => 117 | 33 => 118 | 34 => 119 | 35 => 120 | 40 => 123 | n => n, fun | 23 => 26 | 25 => 2 | 3 => 3 | 32 => 104 | 22 => 26 | 0 => 0 | 44 => 162 | 46 => 42 | 4 => 4 | 36 => 155 | 35 => 154 | 41 => 128 | 5 => 5 | 9 => 9 | 53 => 163 | 57 => 167 | 63 => 169 | 64 => 170 | n => n, fun | n => n⟩
theorem sortLay : Go.Proofs.SlLaysM.n5 Tryz.prog sortLay_ren := {
  mixed := by kernel_rfl
  f5 := ⟨Tryz.f45.name, by decide, Tryz.func45.trans (congrArg some (by kernel_rfl))⟩
  f7 := ⟨Tryz.f78.name, by decide, Tryz.func78.trans (congrArg some (by kernel_rfl))⟩
  f8 := Tryz.func79.trans (congrArg some (by kernel_rfl))
  f10 := ⟨Tryz.f98.name, by decide, Tryz.func98.trans (congrArg some (by kernel_rfl))⟩
  f11 := ⟨Tryz.f99.name, by decide, Tryz.func99.trans (congrArg some (by kernel_rfl))⟩
  f12 := ⟨Tryz.f100.name, by decide, Tryz.func100.trans (congrArg some (by kernel_rfl))⟩
  f13 := ⟨Tryz.f101.name, by decide, Tryz.func101.trans (congrArg some (by kernel_rfl))⟩
  f14 := ⟨Tryz.f102.name, by decide, Tryz.func102.trans (congrArg some (by kernel_rfl))⟩
  f15 := ⟨Tryz.f103.name, by decide, Tryz.func103.trans (congrArg some (by kernel_rfl))⟩
  f16 := ⟨Tryz.f104.name, by decide, Tryz.func104.trans (congrArg some (by kernel_rfl))⟩
  f17 := ⟨Tryz.f105.name, by decide, Tryz.func105.trans (congrArg some (by kernel_rfl))⟩
  f18 := ⟨Tryz.f106.name, by decide, Tryz.func106.trans (congrArg some (by kernel_rfl))⟩
  f19 := Tryz.func107.trans (congrArg some (by kernel_rfl))
  f20 := Tryz.func108.trans (congrArg some (by kernel_rfl))
  f30 := ⟨Tryz.f115.name, by decide, Tryz.func115.trans (congrArg some (by kernel_rfl))⟩
  f31 := Tryz.func116.trans (congrArg some (by kernel_rfl))
  f32 := Tryz.func117.trans (congrArg some (by kernel_rfl))
  f33 := ⟨Tryz.f118.name, by decide, Tryz.func118.trans (congrArg some (by kernel_rfl))⟩
  f34 := ⟨Tryz.f119.name, by decide, Tryz.func119.trans (congrArg some (by kernel_rfl))⟩
  f35 := ⟨Tryz.f120.name, by decide, Tryz.func120.trans (congrArg some (by kernel_rfl))⟩
  f40 := ⟨Tryz.f123.name, by decide, Tryz.func123.trans (congrArg some (by kernel_rfl))⟩
  t0 := Tryz.underlying0
  a0 := Tryz.isAgg0
  z0 := Tryz.sizeOf0
  v0 := Tryz.zeroValue0
  t3 := Tryz.underlying3
  a3 := Tryz.isAgg3
  z3 := Tryz.sizeOf3
  v3 := Tryz.zeroValue3
  t4 := Tryz.underlying4
  a4 := Tryz.isAgg4
  z4 := Tryz.sizeOf4
  v4 := Tryz.zeroValue4
  t5 := Tryz.underlying5
  a5 := Tryz.isAgg5
  z5 := Tryz.sizeOf5
  v5 := Tryz.zeroValue5
  t9 := Tryz.underlying9
  a9 := Tryz.isAgg9
  z9 := Tryz.sizeOf9
  v9 := Tryz.zeroValue9
  t22 := Tryz.underlying26
  a22 := Tryz.isAgg26
  z22 := Tryz.sizeOf26
  v22 := Tryz.zeroValue26
  t23 := Tryz.underlying26
  a23 := Tryz.isAgg26
  z23 := Tryz.sizeOf26
  v23 := Tryz.zeroValue26
  t25 := Tryz.underlying2
  a25 := Tryz.isAgg2
  z25 := Tryz.sizeOf2
  v25 := Tryz.zeroValue2
  t32 := Tryz.underlying104
  a32 := Tryz.isAgg104
  z32 := Tryz.sizeOf104
  v32 := Tryz.zeroValue104
  t35 := Tryz.underlying154
  a35 := Tryz.isAgg154
  z35 := Tryz.sizeOf154
  v35 := Tryz.zeroValue154
  t36 := Tryz.underlying155
  a36 := Tryz.isAgg155
  z36 := Tryz.sizeOf155
  v36 := Tryz.zeroValue155
  t41 := Tryz.underlying128
  a41 := Tryz.isAgg128
  z41 := Tryz.sizeOf128
  v41 := Tryz.zeroValue128
  t44 := Tryz.underlying162
  a44 := Tryz.isAgg162
  z44 := Tryz.sizeOf162
  v44 := Tryz.zeroValue162
  t46 := Tryz.underlying42
  a46 := Tryz.isAgg42
  z46 := Tryz.sizeOf42
  v46 := Tryz.zeroValue42
  t53 := Tryz.underlying163
  a53 := Tryz.isAgg163
  z53 := Tryz.sizeOf163
  v53 := Tryz.zeroValue163
  t57 := Tryz.underlying167
  a57 := Tryz.isAgg167
  z57 := Tryz.sizeOf167
  v57 := Tryz.zeroValue167
  t63 := Tryz.underlying169
  a63 := Tryz.isAgg169
  z63 := Tryz.sizeOf169
  v63 := Tryz.zeroValue169
  t64 := Tryz.underlying170
  a64 := Tryz.isAgg170
  z64 := Tryz.sizeOf170
  v64 := Tryz.zeroValue170 }

abbrev srt (l : List Int) : List Int := l.mergeSort fun x y => decide (x ≤ y)
theorem srt_len (l : List Int) : (srt l).length = l.length := List.length_mergeSort _
theorem srt_mem (l : List Int) (y : Int) : y ∈ srt l ↔ y ∈ l := List.mem_mergeSort
theorem srt_asc {l : List Int} (h : l.Nodup) : Asc (srt l) := by
  have h1 : (srt l).Pairwise fun x y => decide (x ≤ y) = true := List.pairwise_mergeSort (fun a b c h1 h2 => by simp at *; omega) (fun a b => by simp; omega) l
  have h2 : (srt l).Nodup := (List.mergeSort_perm l _).nodup_iff.2 h
  refine List.Pairwise.imp₂ (R := fun x y => decide (x ≤ y) = true) (S := fun x y => x ≠ y) ?_ h1 h2
  intro a b h3 h4
  simp at h3
  omega

theorem sort_row {w : World} {B : Nat} {ao : Option Addr} {cap : Nat} {fnd : List Int} (hR : Gy.RowW w B ao cap fnd) (hn : fnd.length ≤ 100000) :
    Calls Tryz.prog 45 #[.slice ao fnd.length cap] w fun r w' => r = .returned (.tuple #[]) ∧ Gy.RowW w' B ao cap (srt fnd) ∧ Gy.Gx w w' ao := by
  rcases hR.at_ with ⟨rfl, rfl, rfl⟩ | ⟨g, off, rfl, h1, h2, h3, h4, h5⟩
  · refine Calls.mono (AnyM.slices_Sort_int_none sortLay none 0 w) ?_
    rintro e w' ⟨rfl, rfl⟩
    exact ⟨rfl, by simpa using hR, Gy.Gx.of_G (G.refl _)⟩
  · have hH : Holds (Value.int .i64) w g off fnd.toArray := fun j hj => by
      have hj' : j < fnd.length := by simpa using hj
      refine ⟨?_, h5 _⟩
      rw [h3 j fnd[j] (List.getElem?_eq_getElem hj')]
      simp [hj']
    refine Calls.mono (AnyM.slices_Sort_int sortLay g off cap fnd w hH h2 (by omega)) ?_
    rintro e w' ⟨rfl, n, os, rfl⟩
    have hl := srt_len fnd
    have hsz : (srt fnd).toArray.size = fnd.toArray.size := by simp
    have hP := holds_putRow (Value.int .i64) (Sort.ahead w n) g off fnd.toArray (srt fnd).toArray hH hsz
    have hgl : g < (putRow (Value.int .i64) (Sort.ahead w n) g off (srt fnd).toArray).heap.size := by simpa using h2
    have kb : ∀ k, k < w.heap.size → (grow (putRow (Value.int .i64) (Sort.ahead w n) g off (srt fnd).toArray) os).heap[k]? = (putRow (Value.int .i64) (Sort.ahead w n) g off (srt fnd).toArray).heap[k]? := fun k hk => heap_grow_old _ _ (by simpa using hk)
    refine ⟨rfl, ⟨by rw [hl]; exact hR.le, hR.cm, Or.inr ⟨g, off, rfl, h1, by simp; omega, fun i x hi => ?_, fun j hj => ?_, fun j => ?_⟩⟩, ⟨rfl, rfl, rfl, by simp, fun k hk hne => ?_⟩⟩
    · rw [World.cell?_of_block (a := ⟨g, off + i, none⟩) (kb g h2)]
      have hi' : i < (srt fnd).length := (List.getElem?_eq_some_iff.1 hi).1
      rw [(hP i (by simpa using hi')).1]
      have : (srt fnd)[i]? = some x := hi
      simp [this]
    · rw [World.cell?_of_block (a := ⟨g, off + j, none⟩) (kb g h2)]
      by_cases hj2 : j < fnd.length
      · rw [(hP j (by simp; omega)).1]; rfl
      · rw [cell?_putRow_other _ _ _ _ _ _ (Or.inr (Or.inr (by simp; omega)))]
        exact h4 j hj
    · rw [World.frozen?_of_block (a := ⟨g, j, none⟩) (kb g h2), frozen?_putRow]
      exact h5 j
    · have hg : g ≠ k := fun e => hne (by simp [Gy.blk, e])
      rw [kb k hk]
      simp [putRow, mapBlock, Sort.ahead, Array.getElem?_modify, hg]
end Go.Proofs.YtinehimleldkdaaGreatDoor

/- The contract of mark's Reach. -/
namespace Go.Proofs.YtinehimleldkdaaGreatDoor
set_option maxRecDepth 100000
open Go.ChangeShapes Go.WideShapes Go.ChangeAt Go.RowKit Go.Maps

theorem shades_vis (is : Int → Bool) (n : Nat) : ∀ (l m : List Int), n ≤ m.length → Mk.shades is ⟨m, m.drop n⟩ l = ⟨vis is m l, (vis is m l).drop n⟩
  | [], _, _ => rfl
  | y :: r, m, hn => by
    unfold Mk.shades vis Mk.shade
    split
    · have e : (m ++ [y]).drop n = m.drop n ++ [y] := by rw [List.drop_append_of_le_length hn]
      rw [← e]
      exact shades_vis is n r (m ++ [y]) (by simp; omega)
    · exact shades_vis is n r m hn

theorem vis_ge (is : Int → Bool) : ∀ (l m : List Int), m.length ≤ (vis is m l).length
  | [], _ => Nat.le_refl _
  | y :: r, m => by
    unfold vis
    refine Nat.le_trans ?_ (vis_ge is r _)
    split
    · simp
    · exact Nat.le_refl _
theorem reach_round {is : Int → Bool} {F : Int → List Int} {S fnd : List Int} {j : Nat} {x : Int} (hx : fnd[j]? = some x) (h : MInv (is := is) (F := F) S ⟨fnd, fnd.drop j⟩ j) : j + 1 ≤ (vis is fnd (F x)).length ∧ MInv (is := is) (F := F) S ⟨vis is fnd (F x), (vis is fnd (F x)).drop (j + 1)⟩ (j + 1) := by
  have hj : j < fnd.length := (List.getElem?_eq_some_iff.1 hx).1
  have e : fnd.drop j = x :: fnd.drop (j + 1) := by rw [List.drop_eq_getElem_cons hj, (List.getElem?_eq_some_iff.1 hx).2]
  rw [e] at h
  have h2 := h.step
  rw [shades_vis is (j + 1) _ _ hj] at h2
  exact ⟨Nat.le_trans hj (vis_ge is _ _), h2⟩
def rcw (w : World) (kb : Nat) : World := (((w.alloc (.cells #[.pointer (some ⟨kb, 0, none⟩)] 23)).alloc (.cells #[.slice none 0 0] 26)).alloc (.map #[] 0)).alloc (.cells #[.map (some (w.heap.size + 1 + 1))] 89)
theorem rc_start (w : World) (kb : Nat) : RcS w (rcw w kb) kb w.heap.size (w.heap.size + 1) (w.heap.size + 1 + 1 + 1) (w.heap.size + 1 + 1) none 0 [] := by
  have g1 := G.alloc w (.cells #[.pointer (some ⟨kb, 0, none⟩)] 23)
  have c1 := World.cell?_alloc_new w #[.pointer (some ⟨kb, 0, none⟩)] 23 0
  have s1 : (w.alloc (.cells #[.pointer (some ⟨kb, 0, none⟩)] 23)).heap.size = w.heap.size + 1 := World.size_alloc _ _
  unfold rcw
  generalize w.alloc (.cells #[.pointer (some ⟨kb, 0, none⟩)] 23) = w1 at *
  have g2 := G.alloc w1 (.cells #[.slice none 0 0] 26)
  have c2 := World.cell?_alloc_new w1 #[.slice none 0 0] 26 0
  have f2 := Gy.fz_new w1 #[.slice none 0 0] 26 0
  have s2 : (w1.alloc (.cells #[.slice none 0 0] 26)).heap.size = w1.heap.size + 1 := World.size_alloc _ _
  generalize w1.alloc (.cells #[.slice none 0 0] 26) = w2 at *
  have g3 := G.alloc w2 (.map #[] 0)
  have c3 := World.ownsMap_made (H := Unit) w2 Tryz.prog 2 unitElem
  have s3 : (w2.alloc (.map #[] 0)).heap.size = w2.heap.size + 1 := World.size_alloc _ _
  generalize w2.alloc (.map #[] 0) = w3 at *
  have g4 := G.alloc w3 (.cells #[.map (some (w.heap.size + 1 + 1))] 89)
  have c4 := World.cell?_alloc_new w3 #[.map (some (w.heap.size + 1 + 1))] 89 0
  generalize w3.alloc (.cells #[.map (some (w.heap.size + 1 + 1))] 89) = w4 at *
  rw [s3, s2, s1] at c4
  rw [s2, s1] at c3
  rw [s1] at c2 f2
  refine ⟨((g1.trans g2).trans g3).trans g4, ((g2.trans g3).trans g4).cell c1, (g3.trans g4).cell c2, ?_, c4, Gy.RowW.nil _ _, ⟨.map [], ownsMap_block c3 (g4.block (w.heap.size + 1 + 1) (by omega)), fun y _ => by simp [Maps.has_eq]⟩, by omega, by omega, by simp [Gy.blk]⟩
  exact (World.frozen?_of_block (a := ⟨w.heap.size + 1, 0, none⟩) ((g3.trans g4).block (w.heap.size + 1) (by omega))).trans f2

set_option maxHeartbeats 4000000 in
theorem reach_core (w : World) (kb ab : Nat) (bo : Option Addr) (cb n : Nat) (ys A : List Int) (is : Int → Bool) (F : Int → List Int) (hn : ys.length = n) (hn5 : n ≤ 64)
    (cmk : w.cell? ⟨kb, 0, none⟩ = some (.pointer (some ⟨ab, 0, none⟩))) (C : Hid (∀ y w1, G w w1 → Calls Tryz.prog 24 #[.pointer (some ⟨ab, 0, none⟩), .int .i64 y] w1 fun r w' => r = .returned (.bool (is y)) ∧ G w1 w'))
    (CF : Hid (∀ x w1, G w w1 → Calls Tryz.prog 12 #[.pointer (some ⟨kb, 0, none⟩), .int .i64 x] w1 fun r w' => ∃ fo fc, r = .returned (.slice fo (F x).length fc) ∧ Gy.RowW w' w1.heap.size fo fc (F x) ∧ G w1 w'))
    (hF : Hid (∀ x, (F x).length ≤ 64)) (hFw : Hid (∀ x, ∀ y ∈ F x, wfI y)) (hw : Hid (∀ y ∈ ys, wfI y)) (hI : Hid (Gy.IsI w bo ys)) (hbo : Hid (∀ d ∈ Gy.blk bo, d < w.heap.size)) (hA : Hid (∀ y, is y = true → y ∈ A)) (hAl : A.length ≤ 900) :
    Calls Tryz.prog 13 #[.pointer (some ⟨kb, 0, none⟩), .slice bo n cb] w fun r w' => ∃ ao cap fnd, r = .returned (.slice ao fnd.length cap) ∧ Gy.RowW w' w.heap.size ao cap fnd ∧ G w w' ∧ Asc fnd ∧ ∀ y, y ∈ fnd ↔ Rch is F ys y := by
  have hmm := @run_makeMap Tryz.prog
  have hmf : ∀ (fn : Fn) (first cap : Array Value) (w : World), (Instr.makeFunc fn first cap).run Tryz.prog w = .ok (.func fn first cap) w := fun _ _ _ _ => rfl
  have S0 := rc_start w kb
  have hg0 := S0.g
  unfold rcw at S0 hg0
  have I0 := hide ((unhide hI).g hg0)
  have hs0 := hg0.size
  have b0 := hide (fun d hd => (⟨Nat.lt_of_lt_of_le (unhide hbo d hd) hs0, by have := unhide hbo d hd; omega, by have := unhide hbo d hd; omega, by simp [Gy.blk]⟩ : d < _ ∧ d ≠ w.heap.size + 1 + 1 ∧ d ≠ w.heap.size + 1 ∧ d ∉ Gy.blk none))
  have C0 := hide (visit_core w _ kb ab w.heap.size (w.heap.size + 1) (w.heap.size + 1 + 1 + 1) (w.heap.size + 1 + 1) none bo 0 cb n [] ys is hn (by omega) (by simp; omega) cmk C hw (hide S0) I0 b0)
  clear S0 hg0 I0 hs0 b0
  go_enter Tryz.func13, Tryz.ntmps13
  go_wp2_with fail
  refine (unhide C0).mono ?_
  rintro r w1 ⟨rfl, ao1, cap1, S1⟩
  have hvf : w.heap.size ≤ w.heap.size + 1 := by omega
  generalize w.heap.size + 1 + 1 + 1 = vs at *
  generalize w.heap.size + 1 + 1 = mb at *
  generalize w.heap.size + 1 = vf at *
  have S1 := hide S1
  have M1 : Hid (0 ≤ (vis is [] ys).length ∧ MInv (is := is) (F := F) ys ⟨vis is [] ys, (vis is [] ys).drop 0⟩ 0) := hide ⟨Nat.zero_le _, by have := minv_start (is := is) (F := F) ys; have e := shades_vis is 0 ys [] (Nat.zero_le _); rw [List.drop_nil] at e; rw [e] at this; exact this⟩
  clear C0 hmm hmf
  go_wp2_with fail
  go_loopw [8] (fun i wr => ∃ (j : Nat) (ao : Option Addr) (cap : Nat) (fnd : List Int), i = .int .i64 (j : Int) ∧ Hid (j ≤ fnd.length ∧ MInv (is := is) (F := F) ys ⟨fnd, fnd.drop j⟩ j) ∧ Hid (RcS w wr kb w.heap.size vf vs mb ao cap fnd))
    (fun i _ => 1000 - (intOf i).toNat)
  case atStart => exact ⟨0, ao1, cap1, _, rfl, M1, S1⟩
  case round =>
    obtain ⟨j, ao, cap, fnd, rfl, M, S⟩ := hrel
    clear M1 S1
    have hfl : fnd.length ≤ 900 := by have := nodup_sub (unhide M).2.ok.ndm fun y hy => unhide hA y ((unhide M).2.sub y hy).taken; exact Nat.le_trans this hAl
    obtain ⟨k, hk⟩ : ∃ k, fnd.length = k := ⟨_, rfl⟩
    have cf := (unhide S).cf
    have cm := (unhide S).cm
    rw [hk] at cf
    have hk9 : k ≤ 900 := by omega
    replace hk := hide hk
    by_cases hlt : j < k
    · obtain ⟨x, g, off, hx, rfl, cx⟩ := (unhide S).row.is.at_ (i := j) (by have := unhide hk; omega)
      replace hx := hide hx
      have hls := (unhide S).g.size
      go_wp2_with fail
      go_region_with (first
        | (go_at_call 12; refine (unhide CF x _ (by first | exact (unhide S).g.drew | exact (unhide S).g)).mono ?_; rintro r w2 ⟨fo, fc, rfl, R2, g2⟩; have S2 := hide ((unhide S).gr (by first | exact G.trans (G.drew (G.refl _)) g2 | exact g2)); have I2 := hide R2.is; have B2 : Hid (∀ d ∈ Gy.blk fo, d < w2.heap.size ∧ d ≠ mb ∧ d ≠ vf ∧ d ∉ Gy.blk (some ⟨g, off, none⟩)) := hide (fun d hd => by have h1 := R2.lo d hd; have h2 := (unhide S).lt; have h3 : wr.heap.size ≤ d := h1.1; exact ⟨h1.2, by omega, by omega, fun h4 => by have := ((unhide S).row.lo d h4).2; omega⟩); clear R2 g2)
        | (go_at_call 44; refine (visit_core w _ kb ab _ vf vs mb _ fo cap fc _ fnd (F x) is rfl (by have := unhide hF x; omega) (by have := unhide hF x; omega) cmk C (hide (unhide hFw x)) S2 I2 B2).mono ?_; rintro r w3 ⟨rfl, ao3, cap3, S3⟩; have S3 := hide S3))
      all_goals
        have M3 := hide (reach_round (unhide hx) (unhide M).2)
        clear S2 I2 B2 S M cf cm cx hls
        go_wp2_with fail
        go_roundw
        case rel => exact ⟨j + 1, ao3, cap3, _, by go_num, M3, S3⟩
        case measure => simp [intOf]; have := unhide hk; omega
    · go_wp2_with fail
      have CS := hide (sort_row (unhide S).row (by omega))
      rw [unhide hk] at CS
      refine (unhide CS).mono ?_
      rintro r w2 ⟨rfl, R2, gx⟩
      have kf : w2.heap[vf]? = wr.heap[vf]? := gx.block vf (unhide S).lt.2.1 (unhide S).n2.2.1
      have cf2 := (World.cell?_of_block (a := ⟨vf, 0, none⟩) kf).trans cf
      have G2 : Hid (G w w2) := hide ⟨gx.os.trans (unhide S).g.os, gx.tape.trans (unhide S).g.tape, gx.output.trans (unhide S).g.output, Nat.le_trans (unhide S).g.size gx.size, fun d hd => (gx.block d (Nat.lt_of_lt_of_le hd (unhide S).g.size) fun hm => by have := ((unhide S).row.lo d hm).1; omega).trans ((unhide S).g.block d hd)⟩
      have R2 := hide R2
      clear kf gx CS cf cm S
      go_wp2_with fail
      go_ret
      have hd : fnd.drop j = [] := List.drop_eq_nil_of_le (by have := unhide hk; omega)
      have M2 := (unhide M).2
      rw [hd] at M2
      refine ⟨ao, cap, srt fnd, by rw [srt_len, unhide hk]; rfl, unhide R2, unhide G2, srt_asc M2.ok.ndm, fun y => (srt_mem fnd y).trans (M2.done.1 y)⟩
end Go.Proofs.YtinehimleldkdaaGreatDoor

/- The contracts of package mark over all that a law knows: Fields, Step, Reach. -/
namespace Go.Proofs.YtinehimleldkdaaGreatDoor
set_option maxRecDepth 100000
open Go.ChangeShapes Go.WideShapes Go.ChangeAt Go.RowKit Go.Maps

section
variable {W w w' : World} {L : Lc} {e : Lx} {M M1 M2 : Ms} {N N' B : Nat} {E E' F : List Nat}
theorem uok_lo {v : Int} (h : Hd.uokB v = true) : 1 ≤ Hd.up0 v ∧ Hd.up0 v ≤ 64 ∧ 0 ≤ Hd.up2 v := by
  unfold Hd.uokB Hd.hokB at h
  simp only [Bool.and_eq_true, Hd.inB_iff] at h
  omega
theorem m_object (h : Hid (MSx W w L e M1 M2 N E)) (x : Int) :
    Calls Tryz.prog 41 #[.pointer (some ⟨L.kb, 0, none⟩), .int .i64 x] w fun r w' => r = .returned (.tuple #[.agg #[.int .i64 (M1.obj x).1.k, .int .i64 (M1.obj x).1.f, .int .u64 ((M1.obj x).1.m : Int)], .int .i64 ((M1.obj x).2 : Int)]) ∧ G w w' := by
  have hg := (unhide h).bo.st.st.good
  by_cases h1 : M1.al.a.is x = true
  · obtain ⟨hw2, hw64⟩ := is_gw hg h1
    obtain ⟨r1, r2⟩ := mread_yes (i := 0) h1 (by omega) (by omega)
    rw [Int.add_zero] at r2
    by_cases h2 : Hd.uokB (M1.al.a.wd x) = true
    · obtain ⟨u1, u2, u3⟩ := uok_lo h2
      have ea : Hd.ukV (M1.al.a.wd x) (Hd.up0 (M1.al.a.wd x)) = Hd.up0 (M1.al.a.wd x) := by unfold Hd.ukV; rw [if_pos h2]
      have ec : Hd.ukV (M1.al.a.wd x) (Hd.up2 (M1.al.a.wd x)) = Hd.up2 (M1.al.a.wd x) := by unfold Hd.ukV; rw [if_pos h2]
      have ee : Hd.ukE (M1.al.a.wd x) = 0 := by unfold Hd.ukE; rw [if_pos h2]
      have ei : IntKind.i64.wrap (Hd.up0 (M1.al.a.wd x) - 1) = Hd.up0 (M1.al.a.wd x) - 1 := by rw [IntKind.wrap_i64]; omega
      by_cases h3 : Hd.up0 (M1.al.a.wd x) ≤ gw (M1.al.a.clsI (gs x))
      · obtain ⟨r3, _⟩ := mread_yes (i := Hd.up0 (M1.al.a.wd x) - 1) h1 (by omega) (by omega)
        cases hT : M1.T[(Hd.up2 (M1.al.a.wd x)).toNat]? with
        | none =>
          have eo : M1.obj x = (⟨0, 0, 0⟩, 0) := by unfold Ms.obj; rw [if_pos ⟨h1, h2, h3⟩, hT]
          rw [eo]
          refine m_object_core x _ _ _ _ _ _ _ _ _ 0 0 0 4 0 h (hide ⟨rfl, rfl⟩) (hide ⟨rfl, rfl, rfl, rfl⟩) rfl (hide ⟨rfl, rfl⟩) (hide fun _ _ _ w1 g1 => ?_) (hide (Or.inr ⟨by rw [r1]; rfl, Or.inr ⟨by rw [r2, ee]; rfl, Or.inr ⟨by rw [r2, ea, ei, r3]; rfl, Or.inl ⟨rfl, rfl, rfl, rfl, rfl⟩⟩⟩⟩))
          rw [r2, ec]
          have hl : M1.T.length ≤ (Hd.up2 (M1.al.a.wd x)).toNat := List.getElem?_eq_none_iff.1 hT
          exact Hd.shape_no w1 _ _ _ _ _ _ ((unhide h).gr g1).pm.tab _ (Or.inr (by omega))
        | some s =>
          have eo : M1.obj x = (s, (Hd.up0 (M1.al.a.wd x)).toNat) := by unfold Ms.obj; rw [if_pos ⟨h1, h2, h3⟩, hT]
          rw [eo]
          refine m_object_core x _ _ _ _ _ _ _ _ _ s.k s.f s.m 0 _ h (hide ⟨rfl, rfl⟩) (hide ⟨rfl, rfl, rfl, rfl⟩) rfl (hide ⟨rfl, rfl⟩) (hide fun _ _ _ w1 g1 => ?_) (hide (Or.inr ⟨by rw [r1]; rfl, Or.inr ⟨by rw [r2, ee]; rfl, Or.inr ⟨by rw [r2, ea, ei, r3]; rfl, Or.inr ⟨rfl, by rw [r2, ea]; show _ = ((Hd.up0 (M1.al.a.wd x)).toNat : Int); omega⟩⟩⟩⟩))
          rw [r2, ec]
          have := Hd.shape_yes w1 _ _ _ _ _ _ ((unhide h).gr g1).pm.tab _ s hT
          rw [Int.toNat_of_nonneg u3] at this
          exact this
      · obtain ⟨r3, _⟩ := mread_no (a := M1.al.a) (x := x) (i := Hd.up0 (M1.al.a.wd x) - 1) (fun hh => by omega)
        have eo : M1.obj x = (⟨0, 0, 0⟩, 0) := by unfold Ms.obj; rw [if_neg fun hh => h3 hh.2.2]
        rw [eo]
        exact m_object_core x _ _ _ _ _ _ _ _ _ 0 0 0 0 0 h (hide ⟨rfl, rfl⟩) (hide ⟨rfl, rfl, rfl, rfl⟩) rfl (hide ⟨rfl, rfl⟩) (hide fun _ _ t => absurd t (by rw [r2, ea, ei, r3]; decide)) (hide (Or.inr ⟨by rw [r1]; rfl, Or.inr ⟨by rw [r2, ee]; rfl, Or.inl ⟨by rw [r2, ea, ei, r3]; rfl, rfl, rfl, rfl, rfl⟩⟩⟩))
    · have ee : Hd.ukE (M1.al.a.wd x) = 3 := by unfold Hd.ukE; rw [if_neg h2]
      have eo : M1.obj x = (⟨0, 0, 0⟩, 0) := by unfold Ms.obj; rw [if_neg fun hh => h2 hh.2.1]
      rw [eo]
      exact m_object_core x _ _ _ _ _ _ _ _ _ 0 0 0 0 0 h (hide ⟨rfl, rfl⟩) (hide ⟨rfl, rfl, rfl, rfl⟩) rfl (hide ⟨rfl, rfl⟩) (hide fun _ t => absurd t (by rw [r2, ee]; decide)) (hide (Or.inr ⟨by rw [r1]; rfl, Or.inl ⟨by rw [r2, ee]; rfl, rfl, rfl, rfl, rfl⟩⟩))
  · obtain ⟨r1, _⟩ := mread_no (a := M1.al.a) (x := x) (i := 0) (fun hh => h1 hh.1)
    have eo : M1.obj x = (⟨0, 0, 0⟩, 0) := by unfold Ms.obj; rw [if_neg fun hh => h1 hh.1]
    rw [eo]
    exact m_object_core x _ _ _ _ _ _ _ _ _ 0 0 0 0 0 h (hide ⟨rfl, rfl⟩) (hide ⟨rfl, rfl, rfl, rfl⟩) rfl (hide ⟨rfl, rfl⟩) (hide fun t => absurd t (by rw [r1]; decide)) (hide (Or.inl ⟨by rw [r1]; rfl, rfl, rfl, rfl, rfl⟩))

set_option maxHeartbeats 400000 in
theorem m_field (h : Hid (MSx W w L e M1 M2 N E)) (x : Int) (j : Nat) (hj : j ≤ 100) (v : Int) (hv : Hid (M1.al.a.readV x ((j : Int) + 1) = v)) :
    Calls Tryz.prog 43 #[.pointer (some ⟨L.kb, 0, none⟩), .int .i64 x, .int .i64 (j : Int)] w fun r w' => r = .returned (.int .i64 v) ∧ G w w' := by
  have c0 := (unhide h).pm.c0
  have C := hide (ls_read (hide (unhide h).bo.st) x ((j : Int) + 1))
  rw [unhide hv] at C
  generalize M1.al.a.readE x ((j : Int) + 1) = er at *
  clear h hv
  go_enter Tryz.func43, Tryz.ntmps43
  go_wp2_with fail
  refine (unhide C).mono ?_
  rintro r w1 ⟨rfl, _, g⟩
  replace g := hide g
  go_wp2_with fail
  go_ret
  exact ⟨rfl, unhide g⟩

theorem Ms.obj_cases (M : Ms) (x : Int) : M.obj x = (⟨0, 0, 0⟩, 0) ∨ ∃ s, s ∈ M.T ∧ M.al.a.is x = true ∧ M.obj x = (s, (Hd.up0 (M.al.a.wd x)).toNat) ∧ 1 ≤ Hd.up0 (M.al.a.wd x) ∧ Hd.up0 (M.al.a.wd x) ≤ 64 ∧ Hd.up0 (M.al.a.wd x) ≤ gw (M.al.a.clsI (gs x)) := by
  unfold Ms.obj
  split
  · rename_i hh
    cases hT : M.T[(Hd.up2 (M.al.a.wd x)).toNat]? with
    | none => exact Or.inl rfl
    | some s =>
      obtain ⟨u1, u2, _⟩ := uok_lo hh.2.1
      exact Or.inr ⟨s, List.mem_of_getElem? hT, hh.1, rfl, u1, u2, hh.2.2⟩
  · exact Or.inl rfl
theorem m_fields (h : Hid (MS W w L M1 M2 N E)) (x : Int) :
    Calls Tryz.prog 12 #[.pointer (some ⟨L.kb, 0, none⟩), .int .i64 x] w fun r w' => ∃ ao cap, r = .returned (.slice ao (M1.flds x).length cap) ∧ Gy.RowW w' w.heap.size ao cap (M1.flds x) ∧ G w w' := by
  obtain ⟨e, hx⟩ := unhide h
  have ho := hide fun w1 (g1 : G w w1) => m_object (hide (hx.gr g1)) x
  rw [Ms.flds_obj]
  rcases M1.obj_cases x with e0 | ⟨s, hs, hi, e0, u1, u2, u3⟩
  · rw [e0] at ho ⊢
    exact m_fields_core w L.kb x _ 0 (by omega) (by decide) _ ho (hide fun j hj => absurd hj (by omega))
  · rw [e0] at ho ⊢
    exact m_fields_core w L.kb x s _ (by omega) (hx.pm.tab.fit s hs).m0 _ ho (hide fun j hj w1 g1 => m_field (hide (hx.gr g1)) x j (by omega) _ (hide (by
      rw [(mread_yes (i := (j : Int) + 1) hi (by omega) (by omega)).2]
      congr 1
      omega)))

/-! ### Step -/
theorem IsI_kept2 {bo : Option Addr} {ys : List Int} (h : Gy.IsI w bo ys) (k : Kd w w' (Gy.blk bo)) (hl : ∀ d ∈ Gy.blk bo, d < w'.heap.size) : Gy.IsI w' bo ys := by
  rcases h with h | ⟨b, off, rfl, h2, h3⟩
  · exact Or.inl h
  · exact Or.inr ⟨b, off, rfl, hl b (by simp [Gy.blk]), fun i x hi => (World.cell?_of_block (a := ⟨b, off + i, none⟩) (k b (by simp [Gy.blk]))).trans (h3 i x hi)⟩
def Ms.step (M : Ms) : Ms := match M.g with
  | [] => M
  | x :: r => Ms.shades ⟨M.al, M.T, r⟩ (M.flds x)
theorem Ms.shades_snoc : ∀ (l : List Int) (M : Ms) (y : Int), M.shades (l ++ [y]) = (M.shades l).shade y
  | [], _, _ => rfl
  | x :: r, M, y => by rw [List.cons_append]; unfold Ms.shades; exact Ms.shades_snoc r _ y
theorem Ms.shade_g (M : Ms) (y : Int) : (M.shade y).g.length ≤ M.g.length + 1 := by
  unfold Ms.shade
  simp only
  split
  · simp
  · omega
theorem Ms.shades_g : ∀ (l : List Int) (M : Ms), (M.shades l).g.length ≤ M.g.length + l.length
  | [], M => by simp [Ms.shades]
  | x :: r, M => by
    unfold Ms.shades
    have := Ms.shades_g r (M.shade x)
    have := M.shade_g x
    simp
    omega
theorem fldL_len (k : Int) (m n : Nat) (wd : Nat → Int) : (fldL k m n wd).length ≤ n - 1 := by rw [← fldP_all]; exact fldP_len _ _ _ _ _
theorem Ms.flds_len (M : Ms) (x : Int) : (M.flds x).length ≤ 63 := by
  rw [Ms.flds_obj]
  refine Nat.le_trans (fldL_len _ _ _ _) ?_
  rcases M.obj_cases x with e0 | ⟨s, hs, hi, e0, u1, u2, u3⟩ <;> rw [e0] <;> simp only <;> omega
theorem Ms.flds_wd (M : Ms) (x : Int) : ∀ y ∈ M.flds x, ∃ i, y = M.al.a.wd i := by
  intro y hy
  rw [Ms.flds_obj, fldL, List.mem_filterMap] at hy
  obtain ⟨f, _, hf⟩ := hy
  split at hf
  · injection hf with hf; exact ⟨_, hf.symm⟩
  · cases hf

theorem m_step_none (h : Hid (MS W w L M1 M2 N E)) (h0 : M1.g = []) : Calls Tryz.prog 10 #[.pointer (some ⟨L.kb, 0, none⟩)] w fun r w' => r = .returned (.bool false) ∧ w' = w := by
  obtain ⟨e, hx⟩ := unhide h
  have c2 := hx.pm.c2
  have q := hx.pm.que
  rw [h0] at q
  have C := hide (Gy.q_next_none q)
  clear hx q h
  go_enter Tryz.func10, Tryz.ntmps10
  go_wp2_with fail
  refine (unhide C).mono ?_
  rintro r w1 ⟨rfl, rfl⟩
  go_wp2_with fail
  go_ret
  exact ⟨rfl, rfl⟩

set_option maxHeartbeats 2000000 in
theorem m_step_some (h : Hid (MS W w L M1 M2 N E)) {x : Int} {rs : List Int} (h0 : Hid (M1.g = x :: rs)) (hn : rs.length ≤ 100000) : Calls Tryz.prog 10 #[.pointer (some ⟨L.kb, 0, none⟩)] w fun r w' => r = .returned (.bool true) ∧ MS W w' L M1.step M2 N E ∧ Kd w w' E := by
  obtain ⟨e, hx⟩ := unhide h
  have c2 := hx.pm.c2
  have q := hx.pm.que
  rw [unhide h0] at q
  have C := hide (Gy.q_next q (by omega))
  have H := hide hx
  have eM : Hid (M1.step = Ms.shades ⟨M1.al, M1.T, rs⟩ (M1.flds x)) := hide (by unfold Ms.step; rw [unhide h0])
  have hfl := M1.flds_len x
  obtain ⟨ys, hys⟩ : ∃ ys, M1.flds x = ys := ⟨_, rfl⟩
  rw [unhide eM, hys]
  rw [hys] at hfl
  obtain ⟨k, hk⟩ : ∃ k, ys.length = k := ⟨_, rfl⟩
  rw [hk] at hfl
  replace hk := hide hk
  replace hys := hide hys
  clear hx q h eM
  go_enter Tryz.func10, Tryz.ntmps10
  go_wp2_with fail
  refine (unhide C).mono ?_
  rintro r w1 ⟨rfl, Q⟩
  obtain ⟨X1, K1⟩ := (unhide H).que Q
  have X1 := hide X1
  have K1 := hide K1
  have CF : Hid (Calls Tryz.prog 12 #[.pointer (some ⟨L.kb, 0, none⟩), .int .i64 x] w1 fun r w' => ∃ ao cap, r = .returned (.slice ao (M1.flds x).length cap) ∧ Gy.RowW w' w1.heap.size ao cap (M1.flds x) ∧ G w1 w') := hide (m_fields X1 x)
  clear Q C H c2
  rw [unhide hys, unhide hk] at CF
  clear hys h0
  go_wp2_with fail
  refine (unhide CF).mono ?_
  rintro r w2 ⟨ao, cap, rfl, R2, g2⟩
  have X2 : Hid (MS W w2 L (Ms.shades ⟨M1.al, M1.T, rs⟩ (ys.take 0)) M2 N (Gy.blk ao ++ E)) := hide (by
    rw [List.take_zero]
    exact (unhide X1).grE g2 fun d hd => by
      rcases List.mem_append.1 hd with h1 | h1
      · exact Or.inr (R2.lo d h1)
      · exact Or.inl h1)
  have I2 := hide R2.is
  have K2 : Hid (Kd w w2 E) := hide ((unhide K1).trans ((unhide X1).kd g2))
  clear CF R2 g2 X1 K1
  go_wp2_with fail
  go_loopw [21] (fun i wr => ∃ j : Nat, i = .int .i64 (j : Int) ∧ j ≤ k ∧ Hid (MS W wr L (Ms.shades ⟨M1.al, M1.T, rs⟩ (ys.take j)) M2 N (Gy.blk ao ++ E)) ∧ Hid (Gy.IsI wr ao ys) ∧ Hid (Kd w wr E))
    (fun i _ => k - (intOf i).toNat)
  case atStart => exact ⟨0, rfl, Nat.zero_le _, X2, I2, K2⟩
  case round =>
    obtain ⟨j, rfl, hj, X, I, K⟩ := hrel
    clear X2 I2 K2
    by_cases hlt : j < k
    · obtain ⟨y, g, off, hy, rfl, cy⟩ := (unhide I).at_ (i := j) (by have := unhide hk; omega)
      have hT : Hid (ys.take (j + 1) = ys.take j ++ [y]) := hide (by rw [List.take_add_one, hy]; rfl)
      have hg : (Ms.shades ⟨M1.al, M1.T, rs⟩ (ys.take j)).g.length ≤ 900000 := by
        have := Ms.shades_g (ys.take j) ⟨M1.al, M1.T, rs⟩
        rw [List.length_take] at this
        simp only at this
        omega
      have C := hide (m_shade X hg y)
      rw [← Ms.shades_snoc, ← unhide hT] at C
      clear hy hg hT
      generalize (Ms.shades ⟨M1.al, M1.T, rs⟩ (ys.take j)).al.a.markB y = bb at *
      go_wp2_with fail
      refine (unhide C).mono ?_
      rintro r w3 ⟨rfl, X3, K3⟩
      have I3 := hide (IsI_kept2 (unhide I) (fun d hd => K3 d (List.mem_append.2 (Or.inl hd))) fun d hd => X3.lt d (List.mem_append.2 (Or.inl hd)))
      have K4 := hide ((unhide K).trans fun d hd => K3 d (List.mem_append.2 (Or.inr hd)))
      have X3 := hide X3
      clear C K3 cy X I K
      go_wp2_with fail
      go_roundw
      case rel => exact ⟨j + 1, by go_num, by omega, X3, I3, K4⟩
      case measure => simp [intOf]; omega
    · go_wp2_with fail
      go_ret
      have : j = k := by omega
      subst this
      rw [List.take_of_length_le (by have := unhide hk; omega)] at X
      exact ⟨rfl, (unhide X).sub fun d hd => List.mem_append.2 (Or.inr hd), unhide K⟩

/-! ### Reach -/
theorem m_reach (h : Hid (MS W w L M1 M2 N E)) {bo : Option Addr} {cb n : Nat} {ys A : List Int} (hn : ys.length = n) (hn5 : n ≤ 64) (hwf : Hid (∀ y, wfI (M1.al.a.wd y))) (hw : Hid (∀ y ∈ ys, wfI y)) (hI : Hid (Gy.IsI w bo ys)) (hbo : Hid (∀ d ∈ Gy.blk bo, d < w.heap.size))
    (hA : Hid (∀ y, M1.al.a.is y = true → y ∈ A)) (hAl : A.length ≤ 900) :
    Calls Tryz.prog 13 #[.pointer (some ⟨L.kb, 0, none⟩), .slice bo n cb] w fun r w' => ∃ ao cap fnd, r = .returned (.slice ao fnd.length cap) ∧ Gy.RowW w' w.heap.size ao cap fnd ∧ G w w' ∧ Asc fnd ∧ ∀ y, y ∈ fnd ↔ Rch M1.al.a.is M1.flds ys y := by
  obtain ⟨e, hx⟩ := unhide h
  exact reach_core w L.kb L.xl.d.ab bo cb n ys A M1.al.a.is M1.flds hn hn5 hx.pm.c0 (hide fun y w1 g1 => (ls_is (hide (hx.gr g1).bo.st) y).mono fun _ _ hh => ⟨hh.1, hh.2.2⟩)
    (hide fun x w1 g1 => m_fields (hide ⟨e, hx.gr g1⟩) x) (hide fun x => by have := M1.flds_len x; omega) (hide fun x y hy => by obtain ⟨i, rfl⟩ := M1.flds_wd x y hy; exact unhide hwf i) hw hI hbo hA hAl
end
end Go.Proofs.YtinehimleldkdaaGreatDoor

/- A list of things that came in, lists of numbers that came in. -/
namespace Go.Proofs.YtinehimleldkdaaGreatDoor
set_option maxRecDepth 100000
open Go.ChangeShapes Go.WideShapes Go.ChangeAt Go.RowKit Go.Maps Go.Deep

/-- The things of a row. -/
def ThsAt (w : World) (ao : Option Addr) (l : List Th) : Prop := l = [] ∨ ∃ b off, ao = some ⟨b, off, none⟩ ∧ ∀ (i : Nat) t, l[i]? = some t → w.cell? ⟨b, off + i * 3, none⟩ = some (.int .i64 t.sh) ∧ w.cell? ⟨b, off + i * 3 + 1, none⟩ = some (.int .i64 t.wd) ∧ ∃ ro tc, w.cell? ⟨b, off + i * 3 + 2, none⟩ = some (.slice ro t.to.length tc) ∧ Gy.IsI w ro t.to

theorem ThsAt.g {w w' : World} {ao : Option Addr} {l : List Th} (h : ThsAt w ao l) (g : G w w') : ThsAt w' ao l := by
  rcases h with h | ⟨b, off, h1, h2⟩
  · exact Or.inl h
  · refine Or.inr ⟨b, off, h1, fun i t ht => ?_⟩
    obtain ⟨c0, c1, ro, tc, c2, ci⟩ := h2 i t ht
    exact ⟨g.cell c0, g.cell c1, ro, tc, g.cell c2, ci.g g⟩

/-- Numbers that came in. -/
def IsIn (w : World) (ao : Option Addr) (n : Nat) (zs : List Int) : Prop := zs.length = n ∧ n ≤ maxLen ∧ Gy.IsI w ao zs ∧ ∀ z ∈ zs, wfI z
/-- Things that came in. -/
def IsThs (w : World) (ao : Option Addr) (n : Nat) (l : List Th) : Prop := l.length = n ∧ n ≤ maxLen ∧ ThsAt w ao l ∧ ∀ t ∈ l, ∀ z ∈ t.to, wfI z

section
variable {H : Type} {enc : TypeId × Value → H} {w : World} {base b0 : Nat} {spare : Nat → Bool} {held : Bool} {r : Reach} {v : Value} {d : DataW H} {ps : List MemPlace}
theorem ints_of {t e : TypeId} {fuel : Nat} {cs : List Value} {x : DataW H × List MemPlace} (ht : Tryz.prog.underlying t = some (.slice e)) (he : Tryz.prog.underlying e = some (.int .i64)) (hc : Tryz.prog.cellsOf e = 1)
    (h : DataW.trod enc Tryz.prog w base spare held fuel t cs = some x) : ∃ ao n c zs, cs = [.slice ao n c] ∧ IsIn w ao n zs := by
  rcases open_ints ht he hc h with ⟨hcs, _⟩ | ⟨x, len, c, zs, hcs, _, hl, hm, hz, _, hcell, hwz⟩
  · exact ⟨none, 0, 0, [], hcs, rfl, Nat.zero_le _, Or.inl rfl, fun z hz => by cases hz⟩
  · have hle : len ≤ zs.length := by rw [hz]; split <;> omega
    refine ⟨some x, len, c, zs.take len, hcs, by simp; omega, by omega, ?_, fun z hz2 => hwz z (List.mem_of_mem_take hz2)⟩
    rcases Nat.eq_zero_or_pos len with h0 | h0
    · exact Or.inl (by rw [h0]; rfl)
    · obtain ⟨b, off, spot⟩ := x
      have hc := hcell 0 (by omega)
      have hspot : spot = none := by simpa [Addr.add] using World.cell?_spot hc
      subst hspot
      have h1 := hcell 0 (by omega)
      rw [Addr.add_lit] at h1
      refine Or.inr ⟨b, off, rfl, World.block_lt_of_cell? w _ h1, fun i z hi => ?_⟩
      have hil : i < len := by have := (List.getElem?_eq_some_iff.1 hi).1; simp at this; omega
      have := hcell i (by omega)
      rw [Addr.add_lit] at this
      rw [this]
      rw [List.getElem?_take, if_pos hil] at hi
      rw [List.getD_eq_getElem?_getD, hi]
      rfl
theorem open_intsW (hval : Value.okWide Tryz.prog w r b0 34 v) (hd : DataW.Trod enc Tryz.prog w base spare held 34 v d ps) : ∃ ao n c zs, v = .slice ao n c ∧ IsIn w ao n zs := by
  obtain ⟨ao, len, cap, rfl⟩ := okWide_slice Tryz.underlying34 hval
  obtain ⟨fuel, hf⟩ := hd
  obtain ⟨ao', n', c', zs, e, hi⟩ := ints_of Tryz.underlying34 Tryz.underlying3 (by kernel_rfl) hf
  simp [Value.cells] at e
  obtain ⟨rfl, rfl, rfl⟩ := e
  exact ⟨_, _, _, zs, rfl, hi⟩
theorem open_i64sW (hval : Value.okWide Tryz.prog w r b0 26 v) (hd : DataW.Trod enc Tryz.prog w base spare held 26 v d ps) : ∃ ao n c zs, v = .slice ao n c ∧ IsIn w ao n zs := by
  obtain ⟨ao, len, cap, rfl⟩ := okWide_slice Tryz.underlying26 hval
  obtain ⟨fuel, hf⟩ := hd
  obtain ⟨ao', n', c', zs, e, hi⟩ := ints_of Tryz.underlying26 Tryz.underlying2 (by kernel_rfl) hf
  simp [Value.cells] at e
  obtain ⟨rfl, rfl, rfl⟩ := e
  exact ⟨_, _, _, zs, rfl, hi⟩

theorem cells_thing : Tryz.prog.cellsOf 51 = 3 := by kernel_rfl
theorem cells_tint : Tryz.prog.cellsOf 3 = 1 := by kernel_rfl
theorem cells_tints : Tryz.prog.cellsOf 34 = 1 := by kernel_rfl
theorem thing_of_cells {fuel : Nat} {cs : List Value} {x : DataW H × List MemPlace} (hf : DataW.trod enc Tryz.prog w base spare held fuel 51 cs = some x) :
    ∃ q : Th × Option Addr × Nat, cs = [.int .i64 q.1.sh, .int .i64 q.1.wd, .slice q.2.1 q.1.to.length q.2.2] ∧ Gy.IsI w q.2.1 q.1.to ∧ ∀ z ∈ q.1.to, wfI z := by
  obtain ⟨y0, y1, y2, n, _, hl, t0, t1, t2⟩ := trod_struct3 Tryz.underlying51 hf
  rw [cells_thing] at hl
  match cs, hl with
  | [x0, x1, x2], _ =>
    simp only [cells_tint, cells_tints, List.take, List.drop] at t0 t1 t2
    obtain ⟨a, e0, _⟩ := DataW.trod_int Tryz.underlying3 t0
    obtain ⟨b, e1, _⟩ := DataW.trod_int Tryz.underlying3 t1
    obtain ⟨ao, k, c, zs, e2, h1, _, h2, h3⟩ := ints_of Tryz.underlying34 Tryz.underlying3 (by kernel_rfl) t2
    simp at e0 e1 e2
    subst e0 e1 e2 h1
    exact ⟨(⟨a, b, zs⟩, ao, c), rfl, h2, h3⟩
theorem thspot_none {a : Addr} {v : Value} (h : w.cell? a = some v) : a = ⟨a.block, a.off, none⟩ := by
  obtain ⟨b, o, sp⟩ := a
  cases sp with
  | none => rfl
  | some x =>
    unfold World.cell? at h
    split at h <;> simp at h
theorem open_things (hval : Value.okWide Tryz.prog w r b0 33 v) (hd : DataW.Trod enc Tryz.prog w base spare held 33 v d ps) : ∃ ao n c l, v = .slice ao n c ∧ IsThs w ao n l := by
  obtain ⟨ao, len, cap, rfl⟩ := okWide_slice Tryz.underlying33 hval
  obtain ⟨fuel, hf⟩ := hd
  rcases open_slice Tryz.underlying33 hf with ⟨hcs, _⟩ | ⟨a, len', cap', m, n, D, Pl, hcs, _, hl, hm, em, _, hel⟩
  · simp [Value.cells] at hcs
    obtain ⟨rfl, rfl, rfl⟩ := hcs
    exact ⟨none, 0, 0, [], rfl, rfl, Nat.zero_le _, Or.inl rfl, fun t ht => by cases ht⟩
  · simp [Value.cells] at hcs
    obtain ⟨rfl, rfl, rfl⟩ := hcs
    have hlm : len ≤ m := by rw [em]; split <;> omega
    have hs : ∀ i, i < len → ∃ q : Th × Option Addr × Nat, w.cells? base (a.add (i * 3)) 3 = some [.int .i64 q.1.sh, .int .i64 q.1.wd, .slice q.2.1 q.1.to.length q.2.2] ∧ Gy.IsI w q.2.1 q.1.to ∧ ∀ z ∈ q.1.to, wfI z := by
      intro i hi
      obtain ⟨cs', h1, h2⟩ := hel i (by omega)
      rw [cells_thing] at h1
      obtain ⟨s, rfl, h3⟩ := thing_of_cells h2
      exact ⟨s, h1, h3⟩
    have : Inhabited (Th × Option Addr × Nat) := ⟨(⟨0, 0, []⟩, none, 0)⟩
    obtain ⟨S, hS⟩ := choose_lt hs
    refine ⟨some a, len, cap, (List.range len).map fun i => (S i).1, rfl, by simp, by omega, ?_, fun t ht => ?_⟩
    · by_cases h0 : len = 0
      · exact Or.inl (by rw [h0]; rfl)
      right
      have hc : ∀ i, i < len → ∀ j, j < 3 → w.cell? ((a.add (i * 3)).add j) = [Value.int .i64 (S i).1.sh, .int .i64 (S i).1.wd, .slice (S i).2.1 (S i).1.to.length (S i).2.2][j]? := fun i hi j hj => (World.cells?_some (hS i hi).1).2.2 j hj
      have hz := hc 0 (by omega) 0 (by omega)
      simp [Addr.add] at hz
      have ea := thspot_none hz
      obtain ⟨ab, aoff, asp⟩ := a
      simp at ea
      subst ea
      refine ⟨ab, aoff, rfl, ?_⟩
      intro i t hi
      have hil : i < len := by
        have := (List.getElem?_eq_some_iff.1 hi).1
        simpa using this
      obtain rfl : (S i).1 = t := by simpa [hil] using hi
      have c0 := hc i hil 0 (by omega)
      have c1 := hc i hil 1 (by omega)
      have c2 := hc i hil 2 (by omega)
      rw [Addr.add_lit, Addr.add_lit] at c0 c1 c2
      exact ⟨c0, c1, _, _, c2, (hS i hil).2.1⟩
    · simp at ht
      obtain ⟨i, hi, rfl⟩ := ht
      exact (hS i hi).2.2
end
end Go.Proofs.YtinehimleldkdaaGreatDoor

/- What the contract of world rests on: the shapes, both takings, a row that grows beside, the writings. -/
namespace Go.Proofs.YtinehimleldkdaaGreatDoor
set_option maxRecDepth 100000
open Go.ChangeShapes Go.WideShapes Go.ChangeAt Go.RowKit Go.Maps Go.Deep

def kinds : List Hd.Shp := [(0, 0, 0), (0, 1, 1), (0, 2, 2), (0, 3, 5), (1, 0, 1), (1, 0, 0)]
/-- The row of shapes at block sb. -/
def SAt (w : World) (sb : Nat) : Prop := ∀ (j : Nat) s, kinds[j]? = some s → w.cell? ⟨sb, j * 3, none⟩ = some (.int .i64 s.k) ∧ w.cell? ⟨sb, j * 3 + 1, none⟩ = some (.int .i64 s.f) ∧ w.cell? ⟨sb, j * 3 + 2, none⟩ = some (.int .u64 (s.m : Int))
theorem SAt.kept {w w' : World} {sb : Nat} (h : SAt w sb) (k : w'.heap[sb]? = w.heap[sb]?) : SAt w' sb := fun j s hs =>
  ⟨(World.cell?_of_block (a := ⟨sb, j * 3, none⟩) k).trans (h j s hs).1, (World.cell?_of_block (a := ⟨sb, j * 3 + 1, none⟩) k).trans (h j s hs).2.1, (World.cell?_of_block (a := ⟨sb, j * 3 + 2, none⟩) k).trans (h j s hs).2.2⟩
def shpObj : Obj := .cells #[.int .i64 0, .int .i64 0, .int .u64 0, .int .i64 0, .int .i64 1, .int .u64 1, .int .i64 0, .int .i64 2, .int .u64 2, .int .i64 0, .int .i64 3, .int .u64 5, .int .i64 1, .int .i64 0, .int .u64 1, .int .i64 1, .int .i64 0, .int .u64 0] 73
theorem sat_new (w : World) : SAt (w.alloc shpObj) w.heap.size := by
  intro j s hs
  unfold shpObj
  rw [World.cell?_alloc_new, World.cell?_alloc_new, World.cell?_alloc_new]
  match j, hs with
  | 0, hs => cases hs; exact ⟨rfl, rfl, rfl⟩
  | 1, hs => cases hs; exact ⟨rfl, rfl, rfl⟩
  | 2, hs => cases hs; exact ⟨rfl, rfl, rfl⟩
  | 3, hs => cases hs; exact ⟨rfl, rfl, rfl⟩
  | 4, hs => cases hs; exact ⟨rfl, rfl, rfl⟩
  | 5, hs => cases hs; exact ⟨rfl, rfl, rfl⟩
  | j + 6, hs => simp [kinds] at hs
theorem shapes_any (w : World) : Calls Tryz.prog 33 #[] w fun r w' => r = .returned (.slice (some ⟨w.heap.size, 0, none⟩) 6 6) ∧ w' = w.alloc shpObj := by
  unfold shpObj
  go_enter Tryz.func33, Tryz.ntmps33
  go_wp2_with fail
  go_ret
  exact ⟨rfl, rfl⟩
theorem kinds_at : ∀ j : Fin 6, (kinds[j.1]?).isSome = true ∧ (∀ s ∈ kinds[j.1]?, Hd.Shp.good s = true ∧ s ∉ kinds.take j.1 ∧ 0 ≤ s.k ∧ s.k ≤ 1 ∧ 0 ≤ s.f ∧ s.f ≤ 3 ∧ s.m ≤ 5 ∧ kinds.take (j.1 + 1) = kinds.take j.1 ++ [s]) := by decide
theorem kind_fit {s : Hd.Shp} (h0 : 0 ≤ s.k) (h1 : s.k ≤ 1) (h2 : 0 ≤ s.f) (h3 : s.f ≤ 3) (h4 : s.m ≤ 5) : s.Fit := ⟨WalkArith.wf_i64 (by omega), WalkArith.wf_i64 (by omega), by omega⟩

section
variable {W w w' : World} {L : Lc} {M1 M2 : Ms} {N : Nat} {E : List Nat}
theorem m_take (h : Hid (MS W w L M1 M2 N E)) (m : Int) : Calls Tryz.prog 36 #[.pointer (some ⟨L.xl.lb, 0, none⟩), .int .i64 m] w fun r w' => r = .returned (.tuple #[.int .i64 (M1.al.take m).2.1, .int .i64 (M1.al.take m).2.2]) ∧ MS W w' L ⟨(M1.al.take m).1, M1.T, M1.g⟩ M2 N E ∧ Kd w w' E := by
  obtain ⟨e, hx⟩ := unhide h
  exact (bp_take (hide hx.bo) m).mono fun _ _ hh => ⟨hh.1, ⟨e, hx.al hh.2.1 hh.2.2⟩, MSx.kd hh.2.2⟩
theorem d_take (h : Hid (MS W w L M1 M2 N E)) (hN : N ≤ 2000) (m : Int) (hm : 0 ≤ gc m) : Calls Tryz.prog 38 #[.pointer (some ⟨L.x.lb, 0, none⟩), .int .i64 m] w fun r w' => r = .returned (.int .i64 (M2.al.take m).2.1) ∧ MS W w' L M1 ⟨(M2.al.take m).1, M2.T, M2.g⟩ (N + 1) E ∧ Kd w w' E := by
  obtain ⟨e, hx⟩ := unhide h
  exact (br_take' (hide hx.bo) hN m hm).mono fun _ _ hh => ⟨hh.1, ⟨e, hx.al hh.2.1 hh.2.2⟩, MSx.kd hh.2.2⟩
/-- A row beside has one more. -/
theorem MS.app {B : Nat} {bo bo' : Option Addr} {cb' : Nat} {xs : List Int} (h : MS W w L M1 M2 N (Gy.blk bo ++ E)) (hd : Ds (Gy.blk bo) E) (a : Gy.App w w' B bo bo' cb' xs) : MS W w' L M1 M2 N (Gy.blk bo' ++ E) ∧ Kd w w' E ∧ Ds (Gy.blk bo') E := by
  obtain ⟨r, hb, gx⟩ := a
  refine ⟨h.loc (F := Gy.blk bo) ⟨gx.os, gx.tape, gx.output, gx.size, gx.block⟩ (fun f hf => List.mem_append.2 (Or.inl hf)) (fun d hd1 => ?_), fun d hd1 => gx.block d (h.lt d (List.mem_append.2 (Or.inr hd1))) fun hm => hd d hm hd1, fun d hd1 hd2 => ?_⟩
  · rcases List.mem_append.1 hd1 with e | e
    · rcases hb with e2 | e2
      · rw [e2] at e; exact Or.inl (List.mem_append.2 (Or.inl e))
      · have := (r.lo d e).2
        rw [e2] at e
        simp at e
        exact Or.inr ⟨by omega, this⟩
    · exact Or.inl (List.mem_append.2 (Or.inr e))
  · rcases hb with e2 | e2
    · rw [e2] at hd1; exact hd d hd1 hd2
    · rw [e2] at hd1
      simp at hd1
      have := h.lt d (List.mem_append.2 (Or.inr hd2))
      omega
end

theorem MS.rk0 {W w : World} {L : Lc} {M1 M2 : Ms} {N : Nat} {E : List Nat} (h : MS W w L M1 M2 N E) : w.cell? ⟨L.rk, 0, none⟩ = some (.pointer (some ⟨L.x.rb, 0, none⟩)) := by
  obtain ⟨e, h⟩ := h
  exact h.dm.c0
theorem wrF_cls (at_ to_ : List Int) (x : Int) (al : Al) (s : Int) : ∀ f, (wrF at_ to_ x al f).a.clsI s = al.a.clsI s
  | 0 => rfl
  | f + 1 => by
    unfold wrF wrA
    have := wrF_cls at_ to_ x al s f
    show (Ab.writeA _ _ _ _).clsI s = _
    rw [← this]
    unfold Ab.writeA
    split <;> rfl
theorem wrA_cls (al : Al) (x j v s : Int) : (wrA al x j v).a.clsI s = al.a.clsI s := by
  unfold wrA Ab.writeA
  simp only
  split <;> rfl
theorem wrJ_cls (at_ : List Int) (l : List Th) (al : Al) (s : Int) : ∀ j, (wrJ at_ l al j).a.clsI s = al.a.clsI s
  | 0 => rfl
  | j + 1 => by
    have ih := wrJ_cls at_ l al s j
    unfold wrJ
    split
    · unfold wr1
      split
      · exact ih
      · rw [wrF_cls, wrA_cls]; exact ih
    · exact ih
theorem wrJ_succ {at_ : List Int} {l : List Th} {al : Al} {j : Nat} {t : Th} {x : Int} (ht : l[j]? = some t) (hx : at_[j]? = some x) : wrJ at_ l al (j + 1) = wr1 at_ t x (wrJ at_ l al j) := by
  show (match l[j]? with | some t => _ | none => _) = _
  rw [ht]
  simp only
  rw [List.getD_eq_getElem?_getD, hx]
  rfl

/-- What world does. -/
abbrev WorldC : Prop := ∀ (w : World) (_ : Hid (Tab w)) (n : Nat) (_ : 8 ≤ n) (_ : n ≤ 512) (ao : Option Addr) (cap k : Nat) (l : List Th) (_ : Hid (l.length = k)) (_ : k ≤ 100) (_ : Hid (ThsAt w ao l)),
    Calls Tryz.prog 9 #[.int .i64 (n : Int), .slice ao k cap] w fun r w' => ∃ L bo cb, r = .returned (.tuple #[.pointer (some ⟨L.kb, 0, none⟩), .pointer (some ⟨L.rk, 0, none⟩), .pointer (some ⟨L.xl.d.ab, 0, none⟩), .slice bo k cb]) ∧ MS w w' L ⟨(wld n l).1, kinds, []⟩ ⟨(wld n l).1, kinds, []⟩ k (Gy.blk bo) ∧ Gy.RowW w' w.heap.size bo cb (wld n l).2
end Go.Proofs.YtinehimleldkdaaGreatDoor

/- What the laws of package gantlinelaw7 know of what world has made. -/
namespace Go.Proofs.YtinehimleldkdaaGreatDoor
set_option maxRecDepth 100000

theorem wrA_o {al : Al} (h : TkO al) {x j v : Int} (hv : wfI v) : TkO (wrA al x j v) := by
  refine ⟨h.good.writeA x j v, h.calm, fun y => ?_, fun s => ?_⟩
  · show wfI ((al.a.writeA x j v).wd y)
    unfold Ab.writeA
    split
    · show wfI (if y = x + j then v else al.a.wd y)
      split
      · exact hv
      · exact h.wf y
    · exact h.wf y
  · show (al.a.writeA x j v).mr s = 0
    unfold Ab.writeA
    split
    · exact h.mr s
    · exact h.mr s
theorem wf_0 : wfI 0 := wf_small (by decide) (by decide)
theorem getD_wf {l : List Int} (h : ∀ z ∈ l, wfI z) (i : Nat) : wfI (l.getD i 0) := by
  rw [List.getD_eq_getElem?_getD]
  rcases hi : l[i]? with _ | z
  · exact wf_0
  · exact h z (List.mem_of_getElem? hi)
theorem fval_wf {at_ : List Int} (ha : ∀ z ∈ at_, wfI z) {z : Int} (hz : wfI z) : wfI (fval at_ z) := by
  unfold fval
  split
  · exact getD_wf ha _
  · exact hz
theorem wrF_o {at_ to_ : List Int} (ha : ∀ z ∈ at_, wfI z) (ht : ∀ z ∈ to_, wfI z) {al : Al} (h : TkO al) (x : Int) : ∀ f, TkO (wrF at_ to_ x al f)
  | 0 => h
  | f + 1 => wrA_o (wrF_o ha ht h x f) (fval_wf ha (getD_wf ht f))
theorem head_wf (t : Th) : wfI t.head := by
  unfold Th.head Hd.pkV
  split
  · rename_i hk
    obtain ⟨_, _, _, h1, h2⟩ := Hd.hw_up hk
    exact WalkArith.wf_i64 (by omega)
  · exact wf_0
theorem wrJ_o {at_ : List Int} (ha : ∀ z ∈ at_, wfI z) {l : List Th} (ht : ∀ t ∈ l, ∀ z ∈ t.to, wfI z) {al : Al} (h : TkO al) : ∀ j, TkO (wrJ at_ l al j)
  | 0 => h
  | j + 1 => by
    have ih := wrJ_o ha ht h j
    unfold wrJ
    rcases hj : l[j]? with _ | t
    · exact ih
    · simp only
      unfold wr1
      split
      · exact ih
      · exact wrF_o ha (ht t (List.mem_of_getElem? hj)) (wrA_o ih (head_wf t)) _ _
theorem tk_all {n : Nat} (h8 : 8 ≤ n) (h5 : n ≤ 512) (l : List Th) : ∀ j, j ≤ l.length → TkI l j (tkJ (al0 n) l j)
  | 0, _ => tk_start h8 h5 l
  | j + 1, hj => (tk_all h8 h5 l j (by omega)).step (List.getElem?_eq_getElem (by omega))
/-- What world has made. -/
structure WOk (n : Nat) (l : List Th) : Prop where
  o : TkO (wld n l).1
  len : (wld n l).2.length = l.length
  wf : ∀ x ∈ (wld n l).2, wfI x
theorem wld_ok {n : Nat} (h8 : 8 ≤ n) (h5 : n ≤ 512) {l : List Th} (ht : ∀ t ∈ l, ∀ z ∈ t.to, wfI z) : WOk n l := by
  have h := tk_all h8 h5 l l.length (Nat.le_refl _)
  exact ⟨wrJ_o h.wf ht h.o _, h.len, h.wf⟩

theorem wrF_n (at_ to_ : List Int) (x : Int) (al : Al) : ∀ f, (wrF at_ to_ x al f).a.n = al.a.n
  | 0 => rfl
  | f + 1 => (Ab.writeA_n _ _ _ _).trans (wrF_n at_ to_ x al f)
theorem wrJ_n (at_ : List Int) (l : List Th) (al : Al) : ∀ j, (wrJ at_ l al j).a.n = al.a.n
  | 0 => rfl
  | j + 1 => by
    have ih := wrJ_n at_ l al j
    unfold wrJ
    rcases l[j]? with _ | t
    · exact ih
    · simp only
      unfold wr1
      split
      · exact ih
      · rw [wrF_n]; exact (Ab.writeA_n _ _ _ _).trans ih
theorem tkJ_n (al : Al) (l : List Th) : ∀ j, (tkJ al l j).1.a.n = al.a.n
  | 0 => rfl
  | j + 1 => by
    have ih := tkJ_n al l j
    unfold tkJ
    rcases l[j]? with _ | t
    · exact ih
    · exact (Al.take_n _ _).trans ih
theorem wld_n (n : Nat) (l : List Th) : (wld n l).1.a.n = n := (wrJ_n _ _ _ _).trans ((tkJ_n _ _ _).trans rfl)
theorem is_same {a b : Ab} (h1 : b.n = a.n) (h2 : b.cls = a.cls) (h3 : b.tk = a.tk) (y : Int) : b.is y = a.is y := by
  unfold Ab.is Ab.clsI
  rw [h1, h2, h3]

section
variable {W w w' : World} {L : Lc} {M1 M2 : Ms} {N : Nat} {E : List Nat}
/-- So many are taken at most; a list of things for an arena with other marks. -/
theorem MS.few (h : MS W w L M1 M2 N E) : ∃ A : List Int, A.length ≤ N ∧ ∀ y, M2.al.a.is y = true → y ∈ A := by
  obtain ⟨e, h⟩ := h
  obtain ⟨r, cl, l, d⟩ := h.bo.da
  refine ⟨(things l).map fun t => t.addr, ?_, fun y hy => ?_⟩
  · have : (things l).length = l.length := by unfold things; simp
    rw [List.length_map, this]; exact d.ln
  · obtain ⟨t, ht, rfl⟩ := (d.rl.rel.mem d.good.ok y).1 hy
    exact List.mem_map.2 ⟨t, ht, rfl⟩
theorem MS.rel (h : MS W w L M1 M2 N E) : ∃ l, Rel M2.al.a l ∧ M2.al.a.Good := by
  obtain ⟨e, h⟩ := h
  obtain ⟨r, cl, l, d⟩ := h.bo.da
  exact ⟨_, d.rl.rel, d.good⟩
end
/-- The same things, under the marks of another arena. -/
theorem Rel.remark {a b : Ab} {l : List Thg} (r : Rel a l) (g : a.Good) (hn : b.n = a.n) (hc : b.cls = a.cls) (ht : b.tk = a.tk) (hw : b.wd = a.wd) : Rel b (l.map fun t => { t with mr := b.isM t.addr }) := by
  have n1 := g.ok.n1
  refine ⟨?_, fun t' ht' => ?_, fun s p h1 h2 h3 h4 h5 => ?_⟩
  · rw [List.pairwise_map]
    exact r.up
  · obtain ⟨t, ht1, rfl⟩ := List.mem_map.1 ht'
    obtain ⟨s, p, k1, k2, k3, k4, k5, k6, k7, k8, k9⟩ := r.isT t ht1
    refine ⟨s, p, k1, by rw [hn]; exact k2, by rw [hc]; exact k3, by rw [hc]; exact k4, by rw [ht]; exact k5, by rw [hc]; exact k6, ?_, by rw [hc]; exact k8, fun k v hv => by rw [hw]; exact k9 k v hv⟩
    obtain ⟨_, e1, e2, _⟩ := ga_at (s := s) (p := p) k1 (by omega) k3 (g.ok.cr s).2 k4
    show b.isM t.addr = _
    unfold Ab.isM Ab.pl
    rw [k6, e1, (b.I_at k1 (by rw [hn]; exact k2)).2.2, (b.I_at k1 (by rw [hn]; exact k2)).1, hc, e2]
    simp
  · obtain ⟨t, ht1, e⟩ := r.inL s p h1 (by rw [← hn]; exact h2) (by rw [← hc]; exact h3) (by rw [← ht]; exact h4) (by rw [← hc]; exact h5)
    exact ⟨_, List.mem_map.2 ⟨t, ht1, rfl⟩, by rw [hc]; exact e⟩
end Go.Proofs.YtinehimleldkdaaGreatDoor

/- The arena's calls beside both markers. -/
namespace Go.Proofs.YtinehimleldkdaaGreatDoor
set_option maxRecDepth 100000
open Go.ChangeShapes Go.WideShapes Go.ChangeAt Go.RowKit Go.Maps Go.Deep
section
variable {W w w' : World} {L : Lc} {M1 M2 : Ms} {N : Nat} {E : List Nat}
theorem s_is (h : Hid (MS W w L M1 M2 N E)) (x : Int) : Calls Tryz.prog 24 #[.pointer (some ⟨L.xl.d.ab, 0, none⟩), .int .i64 x] w fun r w' => r = .returned (.bool (M1.al.a.is x)) ∧ MS W w' L M1 M2 N E ∧ Kd w w' E := by
  obtain ⟨e, hx⟩ := unhide h
  exact (bp_is (hide hx.bo) x).mono fun _ _ hh => ⟨hh.1, ⟨e, hx.al hh.2.1 hh.2.2⟩, MSx.kd hh.2.2⟩
theorem s_mark (h : Hid (MS W w L M1 M2 N E)) (x : Int) : Calls Tryz.prog 23 #[.pointer (some ⟨L.xl.d.ab, 0, none⟩), .int .i64 x] w fun r w' => r = .returned (.bool (M1.al.a.markB x)) ∧ MS W w' L ⟨⟨M1.al.a.markA x, M1.al.u⟩, M1.T, M1.g⟩ M2 N E ∧ Kd w w' E := by
  obtain ⟨e, hx⟩ := unhide h
  exact (bp_mark (hide hx.bo) x).mono fun _ _ hh => ⟨hh.1, ⟨e, hx.al hh.2.1 hh.2.2⟩, MSx.kd hh.2.2⟩
theorem s_marked (h : Hid (MS W w L M1 M2 N E)) (s : Int) : Calls Tryz.prog 22 #[.pointer (some ⟨L.xl.d.ab, 0, none⟩), .int .i64 s] w fun r w' => r = .returned (.int .u64 (M1.al.a.mrI s : Int)) ∧ MS W w' L M1 M2 N E ∧ Kd w w' E := by
  obtain ⟨e, hx⟩ := unhide h
  exact (bp_marked (hide hx.bo) s).mono fun _ _ hh => ⟨hh.1, ⟨e, hx.al hh.2.1 hh.2.2⟩, MSx.kd hh.2.2⟩
theorem s_maps (h : Hid (MS W w L M1 M2 N E)) (hN : N ≤ 2000) {s : Nat} (hs : s < M2.al.a.n) : Calls Tryz.prog 21 #[.pointer (some ⟨L.x.rb, 0, none⟩), .int .i64 (s : Int)] w fun r w' => r = .returned (.tuple #[.int .u64 (M2.al.a.tkI s : Int), .int .u64 (M2.al.a.mrI s : Int)]) ∧ MS W w' L M1 M2 N E ∧ Kd w w' E := by
  obtain ⟨e, hx⟩ := unhide h
  exact (br_maps' (hide hx.bo) hN hs).mono fun _ _ hh => ⟨hh.1, ⟨e, hx.al hh.2.1 hh.2.2⟩, MSx.kd hh.2.2⟩
/-- A row of numbers made new lies beside from now on. -/
theorem MS.newRow {ao : Option Addr} {cap : Nat} {ys : List Int} (h : MS W w L M1 M2 N E) (g : G w w') (r : Gy.RowW w' w.heap.size ao cap ys) : MS W w' L M1 M2 N (Gy.blk ao ++ E) ∧ Ds (Gy.blk ao) E :=
  ⟨h.grE g fun d hd => by
    rcases List.mem_append.1 hd with e | e
    · exact Or.inr (r.lo d e)
    · exact Or.inl e, fun d hd he => by have := (r.lo d hd).1; have := h.lt d he; omega⟩
end
end Go.Proofs.YtinehimleldkdaaGreatDoor
