/- Package fresh: two ways meet; the states of the first slots. -/
import Derived.Test.YtiangegoglfpeaaDoorFrKn2
namespace Go.Proofs.YtiangegoglfpeaaDoor
set_option maxRecDepth 100000
open Go.RowKit Go.Maps Go.ChangeShapes Go.WideShapes Go.ChangeAt Go.Deep

/-- The words of the first i slots have met. -/
def mixW (k j : List Nat) (i : Nat) : List Nat := (List.zipWith (fun a b => a ||| b) k j).take i ++ k.drop i
theorem mix_zero (k j : List Nat) : mixW k j 0 = k := by simp [mixW]
theorem mix_all (k j : List Nat) (h : k.length = 64) (h2 : j.length = 64) : mixW k j 64 = List.zipWith (fun a b => a ||| b) k j := by
  unfold mixW
  rw [List.take_of_length_le (by simp [h, h2]), List.drop_of_length_le (by omega), List.append_nil]
theorem mix_get (k j : List Nat) (i : Nat) (hi : i < k.length) (hj : k.length = j.length) : (mixW k j i)[i]? = k[i]? := by
  unfold mixW
  rw [List.getElem?_append_right (by simp; omega)]
  have e : i + (i - min i (min k.length j.length)) = i := by omega
  simp [e]
theorem mix_set (k j : List Nat) (i x y : Nat) (hx : k[i]? = some x) (hy : j[i]? = some y) (hj : k.length = j.length) : (mixW k j i).set i (x ||| y) = mixW k j (i + 1) := by
  have hi := (List.getElem?_eq_some_iff.1 hx).1
  have hl : ((List.zipWith (fun a b => a ||| b) k j).take i).length = i := by simp; omega
  unfold mixW
  rw [List.set_append_right _ _ (by omega), hl, Nat.sub_self, List.take_add_one]
  have hz : (List.zipWith (fun a b => a ||| b) k j)[i]? = some (x ||| y) := by simp [List.getElem?_zipWith, hx, hy]
  have hd : k.drop i = x :: k.drop (i + 1) := by
    rw [List.drop_eq_getElem_cons hi]
    congr 1
    exact (List.getElem?_eq_some_iff.1 hx).2
  rw [hz, hd]
  simp
theorem idx_words (w : World) (l : List Nat) (i x : Nat) (hi : i < 64) (hx : l[i]? = some x) : (Instr.index 71 (.agg (l.map fun x : Nat => Value.int .u64 (x : Int)).toArray) (.int .i64 (i : Int))).run Tryd.prog w = .ok (.int .u64 (x : Int)) w := by
  have hsz : (sizeOf 57).run Tryd.prog w = .ok 1 w := by kernel_rfl
  have px : (part 57 (l.map fun x : Nat => Value.int .u64 (x : Int)).toArray (i * 1)).run Tryd.prog w = .ok (.int .u64 (x : Int)) w := by
    simp [part, isAgg, run_underlying Tryd.underlying57, hx]
  have h1 : (0 : Int) ≤ (i : Int) ∧ (i : Int) < ((64 : Nat) : Int) := by omega
  unfold Instr.index
  rw [Sem.run_bind]
  show ((Sem.run Tryd.prog (pure (IntKind.i64, (i : Int)) : Sem _) w).andThen _) = _
  rw [Sem.run_pure, Result.andThen_ok]
  simp only [Sem.run_bind, run_underlying Tryd.underlying71, Result.andThen_ok]
  rw [if_pos h1, Sem.run_bind, hsz, Result.andThen_ok]
  exact px
theorem eqg_known : Tryd.prog.eqGuardType Tryd.prog.depth 73 = false := by kernel_rfl
theorem neq_run {ev : Operand → Value} {op : Oper} (w : World) (A B : Array Value) (q : Bool) (h : (Op.equalIn 10000 73 (.agg A) (.agg B)).run Tryd.prog w = .ok q w) (x y : Operand) (u : TypeId) (ho : op.op = .binOp .neq 73 x y u) (hx : ev x = .agg A) (hy : ev y = .agg B) : (execOp ev op).run Tryd.prog w = .ok (.value (.bool (!q))) w := by
  have h1 := run_eqGuard_agg (P := Tryd.prog) w .neq 73 x y A B eqg_known
  have h2 := run_neq_struct (P := Tryd.prog) w 73 A B
  rw [h, Result.andThen_ok] at h2
  unfold execOp
  simp only [ho, hx, hy, Sem.run_bind, h1, h2, Result.andThen_ok, Sem.run_pure]
variable {w : World} {b c : Nat} {k j : Kn}
set_option maxHeartbeats 1000000 in
theorem meet_any (h : KnAt w b k) (hj : KnAt w c j) (hbc : b ≠ c) : Calls Tryd.prog 48 #[.pointer (some ⟨b, 0, none⟩), .pointer (some ⟨c, 0, none⟩)] w fun e w' => e = .returned (.bool (!(k.meet j).eq k)) ∧ KnAt w' b (k.meet j) ∧ TrD w w' (· = b) := by
  replace h := hide h
  replace hj := hide hj
  go_enter Tryd.func48, Tryd.ntmps48
  go_upto_region 2 with (first
    | (refine wpl_ldk rfl (.tmp 9) rfl b k rfl (unhide h) ?_)
    | (refine wpl_alk rfl rfl ?_; intro w1 g1 k1 z1; replace g1 := hide g1; replace k1 := hide k1; replace z1 := hide z1)
    | (refine wpl_stk rfl (.tmp 5) (.tmp 10) rfl w.heap.size Kn.zero k rfl rfl (unhide k1) (unhide h).ok ?_; intro w2 k2 t2 z2; replace k2 := hide k2; replace t2 := hide t2; replace z2 := hide z2))
  have gw2 : G w w2 := new_g (unhide g1) (unhide t2)
  have hB := (unhide h).g gw2
  have hC := (unhide hj).g gw2
  have hnb : b ≠ w.heap.size := by have := (unhide h).lt; omega
  have y0 := hB.y
  have y1 := hC.y
  have f0 := hB.fro 0 (by decide)
  have a0 := bits_and_u64_nat k.y j.y hB.ok.y hC.ok.y
  have R2 : Hid (∀ x, G (w2.setCell ⟨b, 0, none⟩ (.int .u64 ((k.y &&& j.y : Nat) : Int))) x → KnAt x b ⟨k.y &&& j.y, k.o, k.ws⟩ ∧ TrD w2 x (· = b)) := hide fun x g => kt_g ⟨hB.setY _ (Nat.lt_of_le_of_lt Nat.and_le_left hB.ok.y), (TrD.refl w2 _).set b _ _ (Or.inl rfl)⟩ g
  replace hC := hide hC
  replace gw2 := hide gw2
  clear h hj k1 z1 z2 g1 t2 hB
  try simp only [Act.put, List.setIfInBounds_toArray, List.set_cons_zero, List.set_cons_succ]
  go_cut [] (fun wx => Hid (KnAt wx b ⟨k.y &&& j.y, k.o, k.ws⟩ ∧ TrD w2 wx (· = b)))
  case first =>
    go_region
    all_goals
      go_wp2_with fail
      go_meet
      first | exact unhide R2 _ (G.refl _) | exact unhide R2 _ (G.refl _).drew
  case rest =>
    clear R2 y0 y1 f0 a0
    have k2' := (unhide k2).tr (unhide hcut).2 (fun e => hnb e.symm)
    have C2 := (unhide hC).tr (unhide hcut).2 (fun e => hbc e.symm)
    have hB := (unhide hcut).1
    have y0 := hB.o
    have y1 := C2.o
    have f0 := hB.fro 1 (by decide)
    have a0 := bits_and_u64_nat k.o j.o hB.ok.o C2.ok.o
    have R3 : Hid (∀ x, G (wc.setCell ⟨b, 1, none⟩ (.int .u64 ((k.o &&& j.o : Nat) : Int))) x → KnAt x b ⟨k.y &&& j.y, k.o &&& j.o, k.ws⟩ ∧ TrD wc x (· = b)) := hide fun x g => kt_g ⟨hB.setO _ (Nat.lt_of_le_of_lt Nat.and_le_left hB.ok.o), (TrD.refl wc _).set b _ _ (Or.inl rfl)⟩ g
    have T3 : Hid (∀ x, TrD wc x (· = b) → TrD w x (· = b) ∧ KnAt x w.heap.size k ∧ KnAt x c j) := hide fun x t => ⟨((TrD.of_G _ (unhide gw2)).trans (unhide hcut).2).trans t, k2'.tr t (fun e => hnb e.symm), C2.tr t (fun e => hbc e.symm)⟩
    have okj : Hid j.Ok := hide C2.ok
    have okk : Hid k.Ok := hide k2'.ok
    clear k2 hC gw2 hcut k2' C2 hB
    go_upto_region 3 with fail
    go_cut [] (fun wx => Hid (KnAt wx b ⟨k.y &&& j.y, k.o &&& j.o, k.ws⟩ ∧ TrD wc wx (· = b)))
    case first =>
      go_region
      all_goals
        go_wp2_with fail
        go_meet
        first | exact unhide R3 _ (G.refl _) | exact unhide R3 _ (G.refl _).drew
    case rest =>
      clear R3 y0 y1 f0 a0
      have T4 := unhide T3 _ (unhide hcut).2
      have CJ : Hid (wc.rangeAt c 2 (j.ws.map fun x : Nat => Value.int .u64 (x : Int))) := hide fun i v hv => by
        rw [List.getElem?_map] at hv
        obtain ⟨x, hx, e⟩ := Option.map_eq_some_iff.1 hv
        subst e
        exact T4.2.2.w hx
      have J0 : Hid (KnAt wc b ⟨k.y &&& j.y, k.o &&& j.o, mixW k.ws j.ws 0⟩ ∧ TrD wc wc (· = b)) := hide ⟨by rw [mix_zero]; exact (unhide hcut).1, TrD.refl _ _⟩
      have T5 : Hid (∀ x, TrD wc x (· = b) → TrD w x (· = b) ∧ KnAt x w.heap.size k) := hide fun x t => ⟨T4.1.trans t, T4.2.1.tr t (fun e => hnb e.symm)⟩
      clear hcut T3 T4
      have hjn : (j.ws.map fun x : Nat => Value.int .u64 (x : Int)).length = 64 := by rw [List.length_map]; exact (unhide okj).n
      obtain ⟨L, hL⟩ : ∃ L, L = j.ws.map fun x : Nat => Value.int .u64 (x : Int) := ⟨_, rfl⟩
      rw [← hL] at CJ hjn
      have IX : Hid (∀ (i : Nat), i < 64 → ∃ x y : Nat, k.ws[i]? = some x ∧ j.ws[i]? = some y ∧ x < 18446744073709551616 ∧ y < 18446744073709551616 ∧ ∀ w', (Instr.index 71 (.agg L.toArray) (.int .i64 (i : Int))).run Tryd.prog w' = .ok (.int .u64 (y : Int)) w') := hide fun i hi => by
        have h1 := (unhide okk).n
        have h2 := (unhide okj).n
        have e1 : k.ws[i]? = some (k.ws[i]'(by omega)) := List.getElem?_eq_getElem _
        have e2 : j.ws[i]? = some (j.ws[i]'(by omega)) := List.getElem?_eq_getElem _
        exact ⟨_, _, e1, e2, (unhide okk).w _ (List.mem_of_getElem? e1), (unhide okj).w _ (List.mem_of_getElem? e2), fun w' => by rw [hL]; exact idx_words w' j.ws i _ hi e2⟩
      replace hL := hide hL
      go_wp2_with (refine wpList_load_mid rfl 71 (.tmp 35) rfl c 2 rfl L _ (unhide CJ) Tryd.underlying71 rfl (by rw [hjn]; kernel_rfl) ?_)
      go_loopw [37] (fun i wr => ∃ n : Nat, n ≤ 64 ∧ i = .int .i64 n ∧ Hid (KnAt wr b ⟨k.y &&& j.y, k.o &&& j.o, mixW k.ws j.ws n⟩ ∧ TrD wc wr (· = b))) (fun i _ => 64 - (intOf i).toNat)
      case atStart => exact ⟨0, Nat.zero_le _, rfl, J0⟩
      case round =>
        obtain ⟨n, hn, rfl, HW⟩ := hrel
        clear J0
        by_cases hlt : n < 64
        · obtain ⟨x, y, hx, hy, hxl, hyl, IXn⟩ := unhide IX n hlt
          have hB := (unhide HW).1
          have hg := mix_get k.ws j.ws n (by rw [(unhide okk).n]; exact hlt) ((unhide okk).n.trans (unhide okj).n.symm)
          have c2 := hB.w (i := n) (hg.trans hx)
          have f2 := hB.fro (2 + n) (by omega)
          have hor := bits_or_u64_nat x y hxl hyl
          have NX : Hid (∀ z, G (wr.setCell ⟨b, 2 + n, none⟩ (.int .u64 ((x ||| y : Nat) : Int))) z → KnAt z b ⟨k.y &&& j.y, k.o &&& j.o, mixW k.ws j.ws (n + 1)⟩ ∧ TrD wc z (· = b)) := hide fun z g => by
            have := hB.setW n (x ||| y) hlt (or_lt hxl hyl)
            rw [mix_set k.ws j.ws n x y hx hy ((unhide okk).n.trans (unhide okj).n.symm)] at this
            exact kt_g ⟨this, (unhide HW).2.set b _ _ (Or.inl rfl)⟩ g
          have hnI : (n : Int) < 64 := by omega
          have hn0 : (0 : Int) ≤ (n : Int) := by omega
          clear hB hg hx hy hxl hyl HW IX CJ T5
          go_wp2_with fail
          go_region
          all_goals
            go_wp2_with fail
            go_roundw
            case rel => exact ⟨n + 1, by omega, by go_num, hide (by first | exact unhide NX _ (G.refl _) | exact unhide NX _ (G.refl _).drew)⟩
            case measure => simp [intOf]; omega
        · obtain rfl : n = 64 := by omega
          have hB := (unhide HW).1
          rw [mix_all _ _ (unhide okk).n (unhide okj).n] at hB
          obtain ⟨T6, K6⟩ := unhide T5 _ (unhide HW).2
          replace hB : KnAt wr b (k.meet j) := hB
          have K : Hid (∀ z, G wr z → KnAt z b (k.meet j) ∧ TrD w z (· = b)) := hide fun z g => kt_g ⟨hB, T6⟩ g
          have L1 : Hid (∀ z, G wr z → KnAt z b (k.meet j) ∧ KnAt z w.heap.size k) := hide fun z g => ⟨hB.g g, K6.g g⟩
          have EQ : Hid (∀ z : World, (Op.equalIn 10000 73 (.agg (knC (k.meet j)).toArray) (.agg (knC k).toArray)).run Tryd.prog z = .ok ((k.meet j).eq k) z) := hide fun z => eq_known z _ _ hB.ok (unhide okk)
          clear hB T6 K6 HW IX CJ T5
          go_wp2_with fail
          refine wp_region_noPanic ?_
          have S1 := unhide L1 wr.drew (G.refl wr).drew
          have S2 := unhide K wr.drew (G.refl wr).drew
          refine wp_region_held_drew (S := fun x => x = wr.drew) (by kernel_rfl) rfl (fun hHeld => ?_)
          obtain ⟨y0, hy0⟩ : ∃ y, y = wr.drew := ⟨_, rfl⟩
          rw [← hy0] at hHeld S1 S2 ⊢
          clear hy0 L1 K
          have r1 := S1.1.r
          have r2 := S1.2.r
          have n1 : (Tryd.prog.info? 73).map (·.size) = some (knC (k.meet j)).length := by rw [knC_len S1.1.ok]; exact info_known
          have n2 : (Tryd.prog.info? 73).map (·.size) = some (knC k).length := by rw [knC_len S1.2.ok]; exact info_known
          have E1 := unhide EQ
          replace S1 := hide S1
          replace S2 := hide S2
          obtain ⟨q, hq⟩ : ∃ q, q = (k.meet j).eq k := ⟨_, rfl⟩
          rw [← hq] at E1
          replace hq := hide hq
          clear EQ
          generalize knC (k.meet j) = C1 at r1 n1 E1
          generalize knC k = C2 at r2 n2 E1
          refine wpAnyH_take (i := 0) (v := .pointer (some ⟨b, 0, none⟩)) rfl (by kernel_rfl) (by kernel_rfl) (by kernel_rfl) (fun _ _ _ h => h) (Or.inl ⟨by rfl, fun w hSw => by go_simp⟩) (by assumption) ?_
          try simp only [Act.put, List.getElem_toArray, List.getElem_cons_zero, List.setIfInBounds_toArray, List.set_cons_zero, List.set_cons_succ]
          refine wpAnyH_take (i := 1) (v := .pointer (some ⟨b, 0, none⟩)) rfl (by kernel_rfl) (by kernel_rfl) (by kernel_rfl) (fun _ _ _ h => h) (Or.inl ⟨by rfl, fun w hSw => by go_simp⟩) (by assumption) ?_
          try simp only [Act.put, List.getElem_toArray, List.getElem_cons_succ, List.getElem_cons_zero, List.setIfInBounds_toArray, List.set_cons_zero, List.set_cons_succ]
          refine wpAnyH_take (i := 2) (v := .agg C1.toArray) rfl (by kernel_rfl) (by kernel_rfl) (by kernel_rfl) (fun _ _ _ h => h) (yieldsIf_load_mid (by rfl) 73 (.tmp 54) rfl b 0 rfl C1 _ (fun w hSw => by rw [hSw]; exact r1) Tryd.underlying73 rfl n1) (by assumption) ?_
          try simp only [Act.put, List.getElem_toArray, List.getElem_cons_succ, List.getElem_cons_zero, List.setIfInBounds_toArray, List.set_cons_zero, List.set_cons_succ]
          refine wpAnyH_take (i := 3) (v := .agg C2.toArray) rfl (by kernel_rfl) (by kernel_rfl) (by kernel_rfl) (fun _ _ _ h => h) (yieldsIf_load_mid (by rfl) 73 (.tmp 5) rfl _ 0 rfl C2 _ (fun w hSw => by rw [hSw]; exact r2) Tryd.underlying73 rfl n2) (by assumption) ?_
          try simp only [Act.put, List.getElem_toArray, List.getElem_cons_succ, List.getElem_cons_zero, List.setIfInBounds_toArray, List.set_cons_zero, List.set_cons_succ]
          refine wpAnyH_take (i := 4) (v := .bool (!q)) rfl (by kernel_rfl) (by kernel_rfl) (by kernel_rfl) (fun _ _ _ h => h) (Or.inl ⟨by rfl, fun w hSw => neq_run w C1.toArray C2.toArray q (E1 w) _ _ _ rfl rfl rfl⟩) (by assumption) ?_
          try simp only [Act.put, List.getElem_toArray, List.getElem_cons_succ, List.getElem_cons_zero, List.setIfInBounds_toArray, List.set_cons_zero, List.set_cons_succ]
          refine wpAnyH_take (i := 5) (v := .bool (!q)) rfl (by kernel_rfl) (by kernel_rfl) (by kernel_rfl) (fun _ _ _ h => h) (Or.inl ⟨by rfl, fun w hSw => by go_simp⟩) (by assumption) ?_
          try simp only [Act.put, List.getElem_toArray, List.getElem_cons_succ, List.getElem_cons_zero, List.setIfInBounds_toArray, List.set_cons_zero, List.set_cons_succ]
          refine wpAnyH_done (by kernel_rfl) (NoPanic.normal ?_) _
          clear r1 r2 n1 n2 E1 hHeld S1
          go_wp2_with fail
          go_ret
          rw [← unhide hq]
          exact ⟨rfl, unhide S2⟩
end Go.Proofs.YtiangegoglfpeaaDoor
