/- The contract of the document's Arena: Take. -/
import Derived.Test.YtinehimleldkdaaGreatDoorRefApp
import Derived.Deep.Cut
namespace Go.Proofs.YtinehimleldkdaaGreatDoor
set_option maxRecDepth 100000
open Go.ChangeShapes Go.WideShapes Go.ChangeAt Go.RowKit Go.Maps

/-- append(v, x...) where v is the call's own row of things and x any slice of things, nil or not; where the answer lies. -/
theorem wpl_append_things_at {w : World} {ops : Array Oper} {rest : List Oper} {o : Oper} {a : Act} {Q : Exit → Act → World → Prop} (hgd : o.guard = none) (s x : Operand)
    (ho : o.op = .call { callee := .builtin .append, args := #[s, x], argTypes := #[97, 97] })
    (base : Nat) (v : Value) (n : Nat) (xs : List Value) (hs : a.eval s = v) (hown : w.ownsRow base 96 3 v n xs) (ao : Option Addr) (m c : Nat) (ml : List Mt) (hx : a.eval x = .slice ao m c)
    (hnil : ao = none → m = 0 ∧ c = 0) (hlen : ml.length = m) (hc : ∀ ad, ao = some ad → ∀ (j : Nat) u, (flatM ml)[j]? = some u → w.cell? (ad.add j) = some u) (hnm : n + m ≤ 3000) (hbase : base ≤ w.heap.size)
    (h : ∀ v' w', w'.ownsRow base 96 3 v' (n + m) (xs ++ flatM ml) → w.grownBy w' v.ownBlock → (v ≠ .slice none 0 0 → v' ≠ .slice none 0 0) → (v'.ownBlock = v.ownBlock ∨ v'.ownBlock = some w.heap.size) → wpList Tryz.prog ops Q rest (a.put o.dst v') w') :
    wpList Tryz.prog ops Q (o :: rest) a w := by
  obtain ⟨i0, hi, hz0, hz1, hz2⟩ := info_parts info_thing
  cases ao with
  | none =>
    obtain ⟨rfl, rfl⟩ := hnil rfl
    have hms : ml = [] := List.eq_nil_of_length_eq_zero hlen
    subst hms
    refine wpList_append_own_none hgd s x 97 ho base 96 i0 3 Tryz.underlying97 hi v n xs hs hown hx ?_
    exact h v w (by simpa [flatM] using hown) (World.grownBy.refl _ _) (fun e => e) (Or.inl rfl)
  | some ad =>
    refine wpList_append_own_at w hgd s x 97 ho base 96 i0 (.agg #[.int .i64 0, .slice none 0 0, .bool false]) 3 40 Tryz.underlying97 hi hz0 hz1 hz2 rfl (by decide) v n xs hs hown ad m c (flatM ml) hx (by rw [flatM_len, hlen]) (hc ad rfl) (flatM_one ml) (by unfold maxLen; omega) (by omega) hbase ?_
    intro v' w' h1 h2 h3 h4
    exact h v' w' h1 h2 (fun hv e => hv (h3.1 e).1) h4

theorem own_gr {w w' : World} {b n k : Nat} {e : TypeId} {v : Value} {xs : List Value} (h : w.ownsRow b e k v n xs) (g : G w w') : w'.ownsRow b e k v n xs := by
  refine ⟨h.1, ?_⟩
  rcases h.2 with hn | ⟨gb, c, cur, e1, hb, hg, rest⟩
  · exact Or.inl hn
  · exact Or.inr ⟨gb, c, cur, e1, hb, (g.block gb ((Array.getElem?_eq_some_iff.1 hg).1)).trans hg, rest⟩

/-- While Take lays its new row. -/
structure Tk (w wr : World) (B : Nat) (r : Rd) (cl : List Int) (l : List Mt) (v : Value) (kl : List Mt) : Prop where
  ref : RefAt wr B r cl l
  row : wr.ownsRow w.heap.size 96 3 v kl.length (flatM kl)
  g : G w wr
  nn : v ≠ .slice none 0 0
section
variable {w wr w' : World} {B : Nat} {r : Rd} {cl : List Int} {l kl ml : List Mt} {v v' : Value} {m : Mt}
theorem Tk.gr (h : Tk w wr B r cl l v kl) (g : G wr w') : Tk w w' B r cl l v kl := ⟨h.ref.grown g, own_gr h.row g, h.g.trans g, h.nn⟩
theorem own_ge {b n k : Nat} {e : TypeId} {xs : List Value} (h : w.ownsRow b e k v n xs) {q : Nat} (hq : some q = v.ownBlock) : b ≤ q ∧ q < w.heap.size := by
  rcases h.2 with ⟨rfl, _⟩ | ⟨gb, c, cur, rfl, hb, hg, _⟩
  · simp [Value.ownBlock] at hq
  · have : q = gb := by simpa [Value.ownBlock] using hq
    subst this
    exact ⟨hb, (Array.getElem?_eq_some_iff.1 hg).1⟩
theorem Tk.app (h : Tk w wr B r cl l v kl) (h0 : RefAt w B r cl l) (hr : w'.ownsRow w.heap.size 96 3 v' (kl.length + ml.length) (flatM kl ++ flatM ml)) (hg : wr.grownBy w' v.ownBlock) (hn : v ≠ .slice none 0 0 → v' ≠ .slice none 0 0) : Tk w w' B r cl l v' (kl ++ ml) := by
  have gg : G w w' := ⟨hg.os.trans h.g.os, hg.tape.trans h.g.tape, hg.output.trans h.g.output, Nat.le_trans h.g.size hg.size, fun k hk => (hg.block k (Nat.lt_of_lt_of_le hk h.g.size) (fun e => by
    have := (own_ge h.row e).1
    omega)).trans (h.g.block k hk)⟩
  refine ⟨h0.grown gg, ?_, gg, hn h.nn⟩
  rw [List.length_append]
  unfold flatM at hr ⊢
  rw [List.flatMap_append]
  exact hr

/-- The new thing's words lie apart from the row. -/
structure Nt (w wr : World) (B : Nat) (v : Value) (m : Mt) : Prop where
  wd : WdAt wr B m
  lo : w.heap.size ≤ m.wb
  ap : v.ownBlock ≠ some m.wb
theorem Nt.gr (h : Nt w wr B v m) (g : G wr w') : Nt w w' B v m := ⟨h.wd.kept (g.block _ h.wd.hi) g.size, h.lo, h.ap⟩
theorem Nt.app (h : Nt w wr B v m) (hg : wr.grownBy w' v.ownBlock) (hl : v'.ownBlock = v.ownBlock ∨ v'.ownBlock = some wr.heap.size) : Nt w w' B v' m := by
  refine ⟨h.wd.kept (hg.block _ h.wd.hi (fun e => h.ap e.symm)) hg.size, h.lo, ?_⟩
  rcases hl with e | e
  · rw [e]; exact h.ap
  · rw [e]
    intro e2
    have := h.wd.hi
    injection e2 with e2
    omega
end

/-- What the new row must be. -/
structure Tdone (w wr : World) (B : Nat) (r : Rd) (cl : List Int) (l : List Mt) (v : Value) (k : Nat) (m : Mt) : Prop where
  tk : Tk w wr B r cl l v (l.take k ++ m :: l.drop k)
  nt : Nt w wr B v m

theorem mk_wd (n : Nat) (hn : n ≤ 64) (w : World) : (Instr.makeSlice 26 (.int .i64 (n : Int)) (.int .i64 (n : Int))).run Tryz.prog w =
    .ok (.slice (some ⟨w.heap.size, 0, none⟩) n n) (w.alloc (.cells (madeCells #[.int .i64 0] (n * 1)) 2)) := by
  obtain ⟨i0, hi0, hz0, hz1, hz2⟩ := info_parts info_int64
  have := run_make (P := Tryz.prog) w 26 2 i0 (.int .i64 0) Tryz.underlying26 hi0 hz0 .i64 .i64 (n : Int) (n : Int) (by omega) (Int.le_refl _) (by rw [hz2]; omega) (by omega)
  rw [this, hz1]
  simp only [Int.toNat_natCast]
  rfl
theorem wd_new {w : World} {B b n : Nat} (x : Int) (hn : n ≤ 64) (hB : B ≤ b) (hb : w.heap[b]? = some (.cells (madeCells #[.int .i64 0] (n * 1)) 2 (0, 0))) : WdAt w B ⟨⟨x, List.replicate n 0, false⟩, b, n⟩ := by
  refine ⟨fun k y hk => ?_, fun k => by simp [World.frozen?, hb], hB, (Array.getElem?_eq_some_iff.1 hb).1, by simp, by unfold maxLen; show n ≤ _; omega⟩
  have hk2 : k < n ∧ y = 0 := by
    simp only at hk
    rw [List.getElem?_replicate] at hk
    split at hk
    · exact ⟨by assumption, (Option.some.inj hk).symm⟩
    · cases hk
  obtain ⟨hk3, rfl⟩ := hk2
  have := made_get #[.int .i64 0] (n * 1) k (by omega)
  simp only [World.cell?, hb]
  rw [this]
  simp [Nat.mod_one]

/-- What Take answers where it finds a place. -/
structure Hit (w w1 : World) (B : Nat) (r : Rd) (cl : List Int) (l : List Mt) (A : Nat → Int) (gpn gwn p k : Nat) (v : Value) (m : Mt) : Prop where
  p1 : p < gpn
  p2 : findI (things l) (A p) < 0
  p3 : ∀ q, q < p → 0 ≤ findI (things l) (A q)
  k1 : k ≤ l.length
  k2 : ∀ (i : Nat) u, i < k → (things l)[i]? = some u → u.addr < A p
  k3 : ∀ u, (things l)[k]? = some u → ¬ u.addr < A p
  t : m.t = ⟨A p, List.replicate gwn 0, false⟩
  d : Tdone w w1 B r cl l v k m

/-- What Take answers, and leaves. -/
def RTpost (w : World) (B : Nat) (r : Rd) (cl : List Int) (l : List Mt) (A : Nat → Int) (gpn gwn n : Nat) (e : Ending) (w' : World) : Prop :=
      (e = .returned (.int .i64 0) ∧ G w w' ∧ ∀ q, q < gpn → 0 ≤ findI (things l) (A q)) ∨
      (∃ (p k : Nat) (m : Mt) (g cap : Nat) (w1 : World), e = .returned (.int .i64 (A p)) ∧ w' = w1.setCell ⟨r.rb, 1, none⟩ (.slice (some ⟨g, 0, none⟩) (n + 1) cap) ∧ Hit w w1 B r cl l A gpn gwn p k (.slice (some ⟨g, 0, none⟩) (n + 1) cap) m)

theorem flat_take {w : World} {B : Nat} {r : Rd} {cl : List Int} {l : List Mt} {lb : Nat} (h : RefAt w B r cl l) (hlo : r.lo = some ⟨lb, 0, none⟩) : ∀ (j : Nat) u, (flatM l)[j]? = some u → w.cell? ⟨lb, j, none⟩ = some u := by
  intro j u hj
  have hlen := (List.getElem?_eq_some_iff.1 hj).1
  rw [flatM_len] at hlen
  obtain ⟨m, hm⟩ : ∃ m, l[j / 3]? = some m := ⟨l[j / 3]'(by omega), List.getElem?_eq_getElem _⟩
  have hg := flatM_get l (j / 3) m hm (j % 3) (by omega)
  have e : j / 3 * 3 + j % 3 = j := by omega
  rw [e, hj] at hg
  obtain ⟨b, e1, x0, x1, x2⟩ := h.row (j / 3) m hm
  obtain rfl : b = lb := by rw [hlo] at e1; injection e1 with e1; injection e1 with e1; exact e1.symm
  have h3 : j % 3 = 0 ∨ j % 3 = 1 ∨ j % 3 = 2 := by omega
  rcases h3 with h3 | h3 | h3
  · rw [h3] at hg
    rw [show j = j / 3 * 3 by omega, x0]
    exact hg.symm
  · rw [h3] at hg
    rw [show j = j / 3 * 3 + 1 by omega, x1]
    exact hg.symm
  · rw [h3] at hg
    rw [show j = j / 3 * 3 + 2 by omega, x2]
    exact hg.symm
theorem flat_part (l : List Mt) (k : Nat) : flatM l = flatM (l.take k) ++ flatM (l.drop k) := by
  unfold flatM
  rw [← List.flatMap_append, List.take_append_drop]
theorem flat_low {w : World} {l : List Mt} {lb k : Nat} (h : ∀ (j : Nat) u, (flatM l)[j]? = some u → w.cell? ⟨lb, j, none⟩ = some u) : ∀ ad, some (⟨lb, 0, none⟩ : Addr) = some ad → ∀ (j : Nat) u, (flatM (l.take k))[j]? = some u → w.cell? (ad.add j) = some u := by
  intro ad ha j u hj
  injection ha with ha
  subst ha
  rw [Addr.add_lit, Nat.zero_add]
  refine h j u ?_
  rw [flat_part l k, List.getElem?_append_left ((List.getElem?_eq_some_iff.1 hj).1)]
  exact hj
theorem flat_high {w : World} {l : List Mt} {lb k : Nat} (hk : k ≤ l.length) (h : ∀ (j : Nat) u, (flatM l)[j]? = some u → w.cell? ⟨lb, j, none⟩ = some u) : ∀ ad, some (⟨lb, k * 3, none⟩ : Addr) = some ad → ∀ (j : Nat) u, (flatM (l.drop k))[j]? = some u → w.cell? (ad.add j) = some u := by
  intro ad ha j u hj
  injection ha with ha
  subst ha
  rw [Addr.add_lit]
  refine h (k * 3 + j) u ?_
  have hl : (flatM (l.take k)).length = k * 3 := by rw [flatM_len, List.length_take]; omega
  rw [flat_part l k, List.getElem?_append_right (by omega), hl, Nat.add_sub_cancel_left]
  exact hj

theorem own_form {w : World} {b n n' k : Nat} {e : TypeId} {v : Value} {xs : List Value} (h : w.ownsRow b e k v n xs) (hv : v ≠ .slice none 0 0) (hn : n = n') : ∃ g c, v = .slice (some ⟨g, 0, none⟩) n' c := by
  subst hn
  rcases h.2 with ⟨rfl, _⟩ | ⟨gb, c, cur, rfl, _⟩
  · exact absurd rfl hv
  · exact ⟨gb, c, rfl⟩

theorem Tk.start {w wr : World} {B : Nat} {r : Rd} {cl : List Int} {l : List Mt} (h : RefAt wr B r cl l) (g : G w wr) : Tk w (wr.alloc (.cells #[] 96)) B r cl l (.slice (some ⟨wr.heap.size, 0, none⟩) 0 0) [] :=
  ⟨h.grown (G.alloc _ _), ownsRow_empty wr w.heap.size _ 3 g.size, g.more _, by intro e; cases e⟩
/-- The new thing, laid beside the row. -/
theorem Tk.thing {w wr : World} {B : Nat} {r : Rd} {cl : List Int} {l kl : List Mt} {v : Value} (h : Tk w wr B r cl l v kl) (hB : B ≤ w.heap.size) (x : Int) (n : Nat) (hn : n ≤ 64) (o : Obj) :
    Nt w ((wr.alloc (.cells (madeCells #[.int .i64 0] (n * 1)) 2)).alloc o) B v ⟨⟨x, List.replicate n 0, false⟩, wr.heap.size, n⟩ := by
  have hb : ((wr.alloc (.cells (madeCells #[.int .i64 0] (n * 1)) 2)).alloc o).heap[wr.heap.size]? = some (.cells (madeCells #[.int .i64 0] (n * 1)) 2 (0, 0)) := by
    rw [_root_.Go.heap_alloc_old _ _ (by rw [World.size_alloc]; omega)]
    exact heap_alloc_new wr _
  refine ⟨wd_new x hn (Nat.le_trans hB h.g.size) hb, h.g.size, ?_⟩
  intro e
  have := (own_ge h.row e.symm).2
  simp only at this
  omega
theorem thing_at (w : World) (x : Int) (b n : Nat) (C : Array Value) : ∀ ad, some (⟨w.heap.size + 1, 0, none⟩ : Addr) = some ad → ∀ (j : Nat) u, (flatM [⟨⟨x, List.replicate n 0, false⟩, b, n⟩])[j]? = some u → ((w.alloc (.cells C 2)).alloc (.cells #[.int .i64 x, .slice (some ⟨b, 0, none⟩) n n, .bool false] 96)).cell? (ad.add j) = some u := by
  intro ad ha j u hj
  injection ha with ha
  subst ha
  have e : w.heap.size + 1 = (w.alloc (.cells C 2)).heap.size := by rw [World.size_alloc]
  rw [Addr.add_lit, Nat.zero_add, e, World.cell?_alloc_new]
  simpa [flatM, Mt.cells] using hj

set_option maxHeartbeats 2000000 in
set_option maxRecDepth 100000 in
theorem rtake_some (w : World) (B : Nat) (r : Rd) (cl : List Int) (l : List Mt) (s n nc gpn gwn lb : Nat) (c : Int) (A : Nat → Int) (hln : Hid (l.length = n)) (hn : n ≤ 2000) (hB : Hid (B ≤ w.heap.size)) (h : Hid (RefAt w B r cl l)) (hnc : Hid (cl.length = nc)) (hs : s < nc) (hc : Hid (cl[s]? = some c))
    (hlo : Hid (r.lo = some ⟨lb, 0, none⟩)) (hgp : Hid (gp c = gpn)) (hgp1 : gpn ≤ 64) (hgw : Hid (gw c = gwn)) (hgw1 : Hid (gwn ≤ 64)) (hA : Hid (∀ p : Nat, p < gpn → ga s p c = A p)) (C : Array Value) (HC : Hid (C = madeCells #[.int .i64 0] (gwn * 1))) (MK : ∀ w, (Instr.makeSlice 26 (.int .i64 (gwn : Int)) (.int .i64 (gwn : Int))).run Tryz.prog w = .ok (.slice (some ⟨w.heap.size, 0, none⟩) gwn gwn) (w.alloc (.cells C 2))) :
    Calls Tryz.prog 70 #[.pointer (some ⟨r.rb, 0, none⟩), .int .i64 (s : Int)] w fun e w' =>
      RTpost w B r cl l A gpn gwn n e w' := by
  have k0 : w.cell? ⟨r.rb, 0, none⟩ = some (.slice (some ⟨r.cb, 0, none⟩) nc r.cc) := by have := (unhide h).c0; rw [unhide hnc] at this; exact this
  have k1 : w.cell? ⟨r.cb, s, none⟩ = some (.int .i64 c) := (unhide h).cv s c (unhide hc)
  have CP := hide (fun w1 => rplaces_any c w1)
  rw [unhide hgp] at CP
  have CW := hide (fun w1 => rwords_any c w1)
  rw [unhide hgw] at CW
  have hlc : n ≤ r.lc := by rw [← unhide hln]; exact (unhide h).lle
  have hlm : r.lc ≤ maxLen := (unhide h).lmx
  have R0 : Hid (RefAt w B r cl l ∧ G w w ∧ ∀ q, q < 0 → 0 ≤ findI (things l) (A q)) := hide ⟨unhide h, G.refl _, fun q hq => by omega⟩
  replace hlm := hide hlm
  go_enter Tryz.func70, Tryz.ntmps70
  go_wp2_with fail
  go_loopw [6] (fun i wr => ∃ j : Nat, j ≤ gpn ∧ i = .int .i64 j ∧ Hid (RefAt wr B r cl l ∧ G w wr ∧ ∀ q, q < j → 0 ≤ findI (things l) (A q))) (fun i _ => gpn - (intOf i).toNat)
  case atStart => exact ⟨0, Nat.zero_le _, rfl, R0⟩
  case round =>
    obtain ⟨j, hj, rfl, R⟩ := hrel
    clear R0 k0 k1
    by_cases hjn : j = gpn
    · subst hjn
      go_wp2_with fail
      refine (unhide CP _).mono ?_
      rintro e w1 ⟨rfl, g⟩
      have R1 := hide (show G w w1 from (unhide R).2.1.trans g)
      clear g
      go_wp2_with fail
      go_ret
      exact Or.inl ⟨rfl, unhide R1, (unhide R).2.2⟩
    · have hjl : (j : Int) < (gpn : Int) := by omega
      have CA := hide (fun w1 => raddr_any (s : Int) (j : Int) c w1)
      rw [unhide hA j (by omega)] at CA
      go_wp2_with fail
      refine (unhide CP _).mono ?_
      rintro e w1 ⟨rfl, g⟩
      have R1 := hide (show RefAt w1 B r cl l ∧ G w w1 from ⟨(unhide R).1.grown g, (unhide R).2.1.trans g⟩)
      have R3 := hide (unhide R).2.2
      clear g R
      go_wp2_with fail
      refine (unhide CA _).mono ?_
      rintro e w2 ⟨rfl, g⟩
      have R2 := hide (show RefAt w2 B r cl l ∧ G w w2 from ⟨(unhide R1).1.grown g, (unhide R1).2.trans g⟩)
      clear g R1
      go_wp2_with fail
      refine (rfind_at (unhide R2).1 (by rw [unhide hln]; omega) _).mono ?_
      rintro e w3 ⟨rfl, hw⟩
      subst hw
      by_cases hf : findI (things l) (A j) < 0
      · have HF : Hid (∃ x fi, x = A j ∧ findI (things l) (A j) = fi) := hide ⟨_, _, rfl, rfl⟩
        obtain ⟨x, fi, ex, efi⟩ := unhide HF
        rw [efi, ← ex]
        have hfi : fi < 0 := by rw [← efi]; exact hf
        replace hf := hide hf
        replace ex := hide ex
        clear HF efi CA
        have c1 : w3.cell? ⟨r.rb, 1, none⟩ = some (.slice (some ⟨lb, 0, none⟩) n r.lc) := by have := (unhide R2).1.c1; rw [unhide hln, unhide hlo] at this; exact this
        have hrl : r.rb < w3.heap.size := (unhide R2).1.h0
        go_wp2_with fail
        go_loop [8] (fun i => ∃ k : Nat, k ≤ n ∧ i = .int .i64 k ∧ Hid (∀ (i : Nat) u, i < k → (things l)[i]? = some u → u.addr < x)) (fun i => n - (intOf i).toNat)
        case atStart => exact ⟨0, Nat.zero_le _, rfl, hide fun i u hi => by omega⟩
        case round =>
          obtain ⟨k, hkn, rfl, K⟩ := hrel
          have D : Hid (k = n ∨ ∃ t, k < n ∧ l[k]? = some t) := hide (by
            by_cases e : k = n
            · exact Or.inl e
            · exact Or.inr ⟨l[k]'(by rw [unhide hln]; omega), by omega, List.getElem?_eq_getElem _⟩)
          have D2 : (k = n ∨ ∃ t, k < n ∧ l[k]? = some t ∧ ¬ t.t.addr < x) ∨ ∃ t, k < n ∧ l[k]? = some t ∧ t.t.addr < x := by
            rcases unhide D with e | ⟨t, h1, h2⟩
            · exact Or.inl (Or.inl e)
            · by_cases h3 : t.t.addr < x
              · exact Or.inr ⟨t, h1, h2, h3⟩
              · exact Or.inl (Or.inr ⟨t, h1, h2, h3⟩)
          clear D
          rcases D2 with D3 | ⟨t, hk1, hk2, hk3⟩
          · have K3 : Hid (∀ u, (things l)[k]? = some u → x ≤ u.addr) := hide fun u hu => by
              rcases D3 with rfl | ⟨t, h1, h2, h3⟩
              · have := (List.getElem?_eq_some_iff.1 hu).1
                rw [show (things l).length = l.length by simp [things], unhide hln] at this
                omega
              · rw [things_get h2] at hu
                rw [← Option.some.inj hu]
                omega
            have hkl : Hid (k ≤ l.length) := hide (by rw [unhide hln]; exact hkn)
            have T1 := hide (Tk.start (unhide R2).1 (unhide R2).2)
            have F1 := hide (flat_take (unhide T1).ref (unhide hlo))
            have HO := hide (unhide T1).row
            have HS := hide (unhide T1).g.size
            have L1 : Hid ((l.take k).length = k) := hide (by rw [List.length_take, unhide hln]; omega)
            have L2 : Hid ((l.drop k).length = n - k) := hide (by rw [List.length_drop, unhide hln])
            have hkc : k ≤ r.lc := by omega
            have D4 : ¬ k < n ∨ ∃ ta, (k : Int) < (n : Int) ∧ w3.cell? ⟨lb, k * 3, none⟩ = some (.int .i64 ta) ∧ decide (ta < x) = false := by
              rcases D3 with hke | ⟨t, h1, h2, h3⟩
              · exact Or.inl (by omega)
              · obtain ⟨b, e1, x0, _⟩ := (unhide R2).1.row k t h2
                obtain rfl : b = lb := by rw [unhide hlo] at e1; injection e1 with e1; injection e1 with e1; exact e1.symm
                exact Or.inr ⟨t.t.addr, by omega, x0, by simpa using h3⟩
            clear D3
            rcases D4 with hkf | ⟨ta, hkf, x0, hta⟩
            all_goals
              go_wp2_with (at_builtin; refine wpl_append_things_at rfl (.tmp 52) (.tmp 58) rfl w.heap.size (.slice (some ⟨w3.heap.size, 0, none⟩) 0 0) 0 [] rfl (unhide HO) (some ⟨lb, 0, none⟩) k r.lc (l.take k) rfl (fun e => by cases e) (unhide L1) (flat_low (unhide F1)) (by omega) (unhide HS) ?_; intro v1 w4 hr4 hg4 hn4 hl4)
              have T4 : Hid (Tk w w4 B r cl l v1 (l.take k)) := hide (by have := (unhide T1).app (ml := l.take k) (unhide h) (by rw [unhide L1]; exact hr4) hg4 hn4; rw [List.nil_append] at this; exact this)
              clear hr4 hg4 hn4 hl4 HO HS F1 T1
              refine (unhide CW _).mono ?_
              rintro e w5 ⟨rfl, g⟩
              have T5 := hide ((unhide T4).gr g)
              clear T4 g
              have T6 := hide ((unhide T5).gr ((G.alloc w5 (.cells C 2)).more (.cells #[.int .i64 x, .slice (some ⟨w5.heap.size, 0, none⟩) gwn gwn, .bool false] 96)))
              have N6 := hide ((unhide T5).thing (unhide hB) x gwn (unhide hgw1) (.cells #[.int .i64 x, .slice (some ⟨w5.heap.size, 0, none⟩) gwn gwn, .bool false] 96))
              rw [← unhide HC] at N6
              have HO := hide (unhide T6).row
              rw [unhide L1] at HO
              have HS := hide (unhide T6).g.size
              have HN := hide (thing_at w5 x w5.heap.size gwn C)
              go_upto_region 12 with (at_builtin; refine wpl_append_things_at rfl (.tmp 60) (.tmp 66) rfl w.heap.size v1 k (flatM (l.take k)) rfl (unhide HO) (some ⟨w5.heap.size + 1, 0, none⟩) 1 1 [⟨⟨x, List.replicate gwn 0, false⟩, w5.heap.size, gwn⟩] rfl (fun e => by cases e) rfl (unhide HN) (by omega) (unhide HS) ?_; intro v2 w7 hr7 hg7 hn7 hl7)
              have T7 : Hid (Tk w w7 B r cl l v2 (l.take k ++ [⟨⟨x, List.replicate gwn 0, false⟩, w5.heap.size, gwn⟩])) := hide ((unhide T6).app (ml := [⟨⟨x, List.replicate gwn 0, false⟩, w5.heap.size, gwn⟩]) (unhide h) (by rw [unhide L1]; exact hr7) hg7 hn7)
              have N7 := hide ((unhide N6).app hg7 hl7)
              clear hr7 hg7 hn7 hl7 HO HS HN T6 N6 T5
              have c7 : w7.cell? ⟨r.rb, 1, none⟩ = some (.slice (some ⟨lb, 0, none⟩) n r.lc) := by have := (unhide T7).ref.c1; rw [unhide hln, unhide hlo] at this; exact this
              have L7 : Hid ((l.take k ++ [(⟨⟨x, List.replicate gwn 0, false⟩, w5.heap.size, gwn⟩ : Mt)]).length = k + 1) := hide (by rw [List.length_append, unhide L1]; rfl)
              have HO := hide (unhide T7).row
              rw [unhide L7] at HO
              have HS := hide (unhide T7).g.size
              obtain ⟨lc7, elc⟩ : ∃ q, q = r.lc := ⟨_, rfl⟩
              rw [← elc] at c7
              have hlc7 : n ≤ lc7 := by omega
              have FT := hide (flat_take (unhide T7).ref (unhide hlo))
              replace elc := hide elc
              by_cases hlk : k = lc7
              · try (exfalso; omega)
                all_goals
                  subst hlk
                  have L20 : Hid ((l.drop k).length = 0) := hide (by rw [unhide L2]; omega)
                  have HN0 : Hid (∀ ad, some (⟨lb, 0, none⟩ : Addr) = some ad → ∀ (j : Nat) u, (flatM (l.drop k))[j]? = some u → w7.cell? (ad.add j) = some u) := hide fun ad _ j u hj => by
                    rw [List.drop_eq_nil_of_le (by rw [unhide hln]; omega)] at hj
                    simp [flatM] at hj
                  go_wp2_with (at_builtin; refine wpl_append_things_at rfl (.tmp 69) (.tmp 75) rfl w.heap.size v2 (k + 1) (flatM (l.take k ++ [⟨⟨x, List.replicate gwn 0, false⟩, w5.heap.size, gwn⟩])) rfl (unhide HO) _ 0 _ (l.drop k) rfl (fun e => by cases e) (unhide L20) (unhide HN0) (by omega) (unhide HS) ?_; intro v3 w8 hr8 hg8 hn8 hl8; have T8 := hide ((unhide T7).app (ml := l.drop k) (unhide h) (by rw [unhide L7, unhide L20]; exact hr8) hg8 hn8); have N8 := hide ((unhide N7).app hg8 hl8); obtain ⟨g9, cap9, rfl⟩ := own_form (n' := n + 1) hr8 (hn8 (unhide T7).nn) (by omega); have c8 : w8.cell? ⟨r.rb, 1, none⟩ = some (.slice r.lo l.length r.lc) := (unhide T8).ref.c1; have f8 : w8.frozen? ⟨r.rb, 1, none⟩ = false := (unhide T8).ref.f0 1; clear hr8 hg8 hn8 hl8 HO HS T7 N7 c7)
                  go_ret
                  refine Or.inr ⟨j, k, ⟨⟨x, List.replicate gwn 0, false⟩, w5.heap.size, gwn⟩, g9, cap9, w8, by rw [← unhide ex]; rfl, rfl, ⟨by omega, unhide hf, unhide R3, unhide hkl, by rw [← unhide ex]; exact unhide K, fun u hu hlt => by have := unhide K3 u hu; rw [← unhide ex] at hlt; omega, by rw [← unhide ex], ⟨?_, unhide N8⟩⟩⟩
                  have := unhide T8
                  rw [List.append_assoc] at this
                  exact this
              · have hlk2 : ¬ lc7 = k := fun e => hlk e.symm
                have HN1 := hide (flat_high (unhide hkl) (unhide FT))
                go_wp2_with (at_builtin; refine wpl_append_things_at rfl (.tmp 69) (.tmp 75) rfl w.heap.size v2 (k + 1) (flatM (l.take k ++ [⟨⟨x, List.replicate gwn 0, false⟩, w5.heap.size, gwn⟩])) rfl (unhide HO) _ (n - k) _ (l.drop k) rfl (fun e => by cases e) (unhide L2) (unhide HN1) (by omega) (unhide HS) ?_; intro v3 w8 hr8 hg8 hn8 hl8; have T8 := hide ((unhide T7).app (ml := l.drop k) (unhide h) (by rw [unhide L7, unhide L2]; exact hr8) hg8 hn8); have N8 := hide ((unhide N7).app hg8 hl8); obtain ⟨g9, cap9, rfl⟩ := own_form (n' := n + 1) hr8 (hn8 (unhide T7).nn) (by omega); have c8 : w8.cell? ⟨r.rb, 1, none⟩ = some (.slice r.lo l.length r.lc) := (unhide T8).ref.c1; have f8 : w8.frozen? ⟨r.rb, 1, none⟩ = false := (unhide T8).ref.f0 1; clear hr8 hg8 hn8 hl8 HO HS T7 N7 c7)
                go_ret
                refine Or.inr ⟨j, k, ⟨⟨x, List.replicate gwn 0, false⟩, w5.heap.size, gwn⟩, g9, cap9, w8, by rw [← unhide ex]; rfl, rfl, ⟨by omega, unhide hf, unhide R3, unhide hkl, by rw [← unhide ex]; exact unhide K, fun u hu hlt => by have := unhide K3 u hu; rw [← unhide ex] at hlt; omega, by rw [← unhide ex], ⟨?_, unhide N8⟩⟩⟩
                have := unhide T8
                rw [List.append_assoc] at this
                exact this
          · obtain ⟨b, e1, x0, _⟩ := (unhide R2).1.row k t hk2
            obtain rfl : b = lb := by rw [unhide hlo] at e1; injection e1 with e1; injection e1 with e1; exact e1.symm
            have K2 : Hid (∀ (i : Nat) u, i < k + 1 → (things l)[i]? = some u → u.addr < x) := hide fun i u hi hu => by
              by_cases e : i = k
              · subst e
                rw [things_get hk2] at hu
                rw [← Option.some.inj hu]
                exact hk3
              · exact unhide K i u (by omega) hu
            have hkf : (k : Int) < (n : Int) := by omega
            generalize t.t.addr = ta at x0 hk3
            have hta : decide (ta < x) = true := by simpa using hk3
            clear K hk2 e1
            go_wp2_with fail
            go_round
            case rel => exact ⟨k + 1, by omega, by go_num, K2⟩
            case measure => simp [intOf]; omega
      · have RR : Hid (RefAt w3 B r cl l ∧ G w w3 ∧ ∀ q, q < j + 1 → 0 ≤ findI (things l) (A q)) := hide ⟨(unhide R2).1, (unhide R2).2, fun q hq => by
          by_cases e : q = j
          · subst e; omega
          · exact unhide R3 q (by omega)⟩
        generalize findI (things l) (A j) = fi at hf
        generalize A j = x
        have hfd : decide (fi < 0) = false := by simpa using hf
        clear R2 R3
        go_wp2_with fail
        go_roundw
        case rel => exact ⟨j + 1, by omega, by go_num, RR⟩
        case measure => simp [intOf]; omega

theorem findI_nil (x : Int) : findI (things []) x = -1 := rfl

set_option maxHeartbeats 2000000 in
set_option maxRecDepth 100000 in
theorem rtake_none (w : World) (B : Nat) (r : Rd) (cl : List Int) (s nc gpn gwn : Nat) (c x : Int) (A : Nat → Int) (hB : Hid (B ≤ w.heap.size)) (h : Hid (RefAt w B r cl [])) (hnc : Hid (cl.length = nc)) (hs : s < nc) (hc : Hid (cl[s]? = some c))
    (hlo : Hid (r.lo = none)) (hgp : Hid (gp c = gpn)) (hgp0 : 0 < gpn) (hgp1 : gpn ≤ 64) (hgw : Hid (gw c = gwn)) (hgw1 : Hid (gwn ≤ 64)) (hA : Hid (ga s (0 : Nat) c = A 0)) (ex : Hid (x = A 0)) (C : Array Value) (HC : Hid (C = madeCells #[.int .i64 0] (gwn * 1))) (MK : ∀ w, (Instr.makeSlice 26 (.int .i64 (gwn : Int)) (.int .i64 (gwn : Int))).run Tryz.prog w = .ok (.slice (some ⟨w.heap.size, 0, none⟩) gwn gwn) (w.alloc (.cells C 2))) :
    Calls Tryz.prog 70 #[.pointer (some ⟨r.rb, 0, none⟩), .int .i64 (s : Int)] w fun e w' =>
      RTpost w B r cl [] A gpn gwn 0 e w' := by
  have k0 : w.cell? ⟨r.rb, 0, none⟩ = some (.slice (some ⟨r.cb, 0, none⟩) nc r.cc) := by have := (unhide h).c0; rw [unhide hnc] at this; exact this
  have k1 : w.cell? ⟨r.cb, s, none⟩ = some (.int .i64 c) := (unhide h).cv s c (unhide hc)
  have CP := hide (fun w1 => rplaces_any c w1)
  rw [unhide hgp] at CP
  have CW := hide (fun w1 => rwords_any c w1)
  rw [unhide hgw] at CW
  have CA := hide (fun w1 => raddr_any (s : Int) ((0 : Nat) : Int) c w1)
  rw [unhide hA, ← unhide ex] at CA
  have CF := hide (fun (w1 : World) (R : RefAt w1 B r cl []) => rfind_at R (by simp) x)
  rw [findI_nil] at CF
  have hlc : r.lc = 0 := ((unhide h).nil (unhide hlo)).2
  replace hlc := hide hlc
  have R0 : Hid (RefAt w B r cl [] ∧ G w w) := hide ⟨unhide h, G.refl _⟩
  go_enter Tryz.func70, Tryz.ntmps70
  go_wp2_with fail
  go_loopw [6] (fun i wr => i = .int .i64 0 ∧ Hid (RefAt wr B r cl [] ∧ G w wr)) (fun i _ => gpn - (intOf i).toNat)
  case atStart => exact ⟨rfl, R0⟩
  case round =>
    obtain ⟨rfl, R⟩ := hrel
    clear R0 k0 k1
    have hjl : (0 : Int) < (gpn : Int) := by omega
    go_wp2_with fail
    refine (unhide CP _).mono ?_
    rintro e w1 ⟨rfl, g⟩
    have R1 := hide (show RefAt w1 B r cl [] ∧ G w w1 from ⟨(unhide R).1.grown g, (unhide R).2.trans g⟩)
    clear g R
    go_wp2_with fail
    refine (unhide CA _).mono ?_
    rintro e w2 ⟨rfl, g⟩
    have R2 := hide (show RefAt w2 B r cl [] ∧ G w w2 from ⟨(unhide R1).1.grown g, (unhide R1).2.trans g⟩)
    clear g R1
    go_wp2_with fail
    refine (unhide CF _ (unhide R2).1).mono ?_
    rintro e w3 ⟨rfl, hw⟩
    subst hw
    have c1 : w3.cell? ⟨r.rb, 1, none⟩ = some (.slice none 0 0) := by have := (unhide R2).1.c1; rw [unhide hlc, unhide hlo] at this; exact this
    have hrl : r.rb < w3.heap.size := (unhide R2).1.h0
    have T1 := hide (Tk.start (unhide R2).1 (unhide R2).2)
    have HO := hide (unhide T1).row
    have HS := hide (unhide T1).g.size
    go_wp2_with fail
    go_loop [8] (fun i => i = .int .i64 0) (fun _ => 0)
    case atStart => rfl
    case round =>
      subst hrel
      go_wp2_with (at_builtin; refine wpl_append_things_at rfl (.tmp 52) (.tmp 58) rfl w.heap.size (.slice (some ⟨w3.heap.size, 0, none⟩) 0 0) 0 [] rfl (unhide HO) none 0 0 [] rfl (fun _ => ⟨rfl, rfl⟩) rfl (fun _ e => by cases e) (by omega) (unhide HS) ?_; intro v1 w4 hr4 hg4 hn4 hl4)
      have T4 : Hid (Tk w w4 B r cl [] v1 []) := hide ((unhide T1).app (ml := []) (unhide h) hr4 hg4 hn4)
      clear hr4 hg4 hn4 hl4 HO HS T1
      refine (unhide CW _).mono ?_
      rintro e w5 ⟨rfl, g⟩
      have T5 := hide ((unhide T4).gr g)
      clear T4 g
      have T6 := hide ((unhide T5).gr ((G.alloc w5 (.cells C 2)).more (.cells #[.int .i64 x, .slice (some ⟨w5.heap.size, 0, none⟩) gwn gwn, .bool false] 96)))
      have N6 := hide ((unhide T5).thing (unhide hB) x gwn (unhide hgw1) (.cells #[.int .i64 x, .slice (some ⟨w5.heap.size, 0, none⟩) gwn gwn, .bool false] 96))
      rw [← unhide HC] at N6
      have HO := hide (unhide T6).row
      have HS := hide (unhide T6).g.size
      have HN := hide (thing_at w5 x w5.heap.size gwn C)
      go_upto_region 12 with (at_builtin; refine wpl_append_things_at rfl (.tmp 60) (.tmp 66) rfl w.heap.size v1 0 (flatM []) rfl (unhide HO) (some ⟨w5.heap.size + 1, 0, none⟩) 1 1 [⟨⟨x, List.replicate gwn 0, false⟩, w5.heap.size, gwn⟩] rfl (fun e => by cases e) rfl (unhide HN) (by omega) (unhide HS) ?_; intro v2 w7 hr7 hg7 hn7 hl7)
      have T7 : Hid (Tk w w7 B r cl [] v2 ([] ++ [⟨⟨x, List.replicate gwn 0, false⟩, w5.heap.size, gwn⟩])) := hide ((unhide T6).app (ml := [⟨⟨x, List.replicate gwn 0, false⟩, w5.heap.size, gwn⟩]) (unhide h) hr7 hg7 hn7)
      have N7 := hide ((unhide N6).app hg7 hl7)
      clear hr7 hg7 hn7 hl7 HO HS HN T6 N6 T5
      have c7 : w7.cell? ⟨r.rb, 1, none⟩ = some (.slice none 0 0) := by have := (unhide T7).ref.c1; rw [unhide hlc, unhide hlo] at this; exact this
      have HO : Hid (w7.ownsRow w.heap.size 96 3 v2 1 (flatM ([] ++ [(⟨⟨x, List.replicate gwn 0, false⟩, w5.heap.size, gwn⟩ : Mt)]))) := hide (unhide T7).row
      have HS := hide (unhide T7).g.size
      go_wp2_with (at_builtin; refine wpl_append_things_at rfl (.tmp 69) (.tmp 75) rfl w.heap.size v2 1 (flatM ([] ++ [(⟨⟨x, List.replicate gwn 0, false⟩, w5.heap.size, gwn⟩ : Mt)])) rfl (unhide HO) none 0 0 [] rfl (fun _ => ⟨rfl, rfl⟩) rfl (fun _ e => by cases e) (by omega) (unhide HS) ?_; intro v3 w8 hr8 hg8 hn8 hl8; have T8 := hide ((unhide T7).app (ml := []) (unhide h) hr8 hg8 hn8); have N8 := hide ((unhide N7).app hg8 hl8); obtain ⟨g9, cap9, rfl⟩ := own_form (n' := 1) hr8 (hn8 (unhide T7).nn) rfl; have c8 : w8.cell? ⟨r.rb, 1, none⟩ = some (.slice r.lo 0 r.lc) := (unhide T8).ref.c1; have f8 : w8.frozen? ⟨r.rb, 1, none⟩ = false := (unhide T8).ref.f0 1; clear hr8 hg8 hn8 hl8 HO HS T7 N7 c7)
      go_ret
      exact Or.inr ⟨0, 0, ⟨⟨x, List.replicate gwn 0, false⟩, w5.heap.size, gwn⟩, g9, cap9, w8, by rw [← unhide ex]; rfl, rfl, ⟨hgp0, by rw [findI_nil]; decide, fun q hq => by omega, Nat.le_refl _, fun i u hi => by omega, fun u hu => by simp [things] at hu, by rw [← unhide ex], ⟨unhide T8, unhide N8⟩⟩⟩
end Go.Proofs.YtinehimleldkdaaGreatDoor
