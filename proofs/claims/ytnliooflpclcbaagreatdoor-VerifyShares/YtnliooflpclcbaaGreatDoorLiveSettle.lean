/- settle of package live. -/
import Derived.Test.YtnliooflpclcbaaGreatDoorLiveSetP
import Derived.Test.YtnliooflpclcbaaGreatDoorLiveLeaf
namespace Go.Proofs.YtnliooflpclcbaaGreatDoor
set_option maxRecDepth 100000
open Go.RowKit Go.Maps Go.ChangeShapes Go.WideShapes Go.ChangeAt Go.Deep

/-- w' is w but for the block nb and new ones. -/
structure TrN (w w' : World) (nb : Nat) : Prop where
  os : w'.os = w.os
  tape : w'.tape = w.tape
  output : w'.output = w.output
  size : w.heap.size ≤ w'.heap.size
  block : ∀ k, k < w.heap.size → k ≠ nb → w'.heap[k]? = w.heap[k]?
theorem TrN.refl (w : World) (nb : Nat) : TrN w w nb := ⟨rfl, rfl, rfl, Nat.le_refl _, fun _ _ _ => rfl⟩
theorem TrN.of_G {w w' : World} (nb : Nat) (g : G w w') : TrN w w' nb := ⟨g.os, g.tape, g.output, g.size, fun k hk _ => g.block k hk⟩
theorem TrN.trans {a b c : World} {nb : Nat} (h : TrN a b nb) (k : TrN b c nb) : TrN a c nb :=
  ⟨k.os.trans h.os, k.tape.trans h.tape, k.output.trans h.output, Nat.le_trans h.size k.size, fun q h1 h2 => (k.block q (Nat.lt_of_lt_of_le h1 h.size) h2).trans (h.block q h1 h2)⟩
theorem TrN.kx {w w' : World} {nb : Nat} {q : Option Nat} (h : TrN w w' nb) : Kx 0 nb q w w' := ⟨fun b _ h2 h3 _ => h.block b h2 h3, h.size⟩
/-- While the sets grow: X: the world behind ahead and the first work; only the sets and the work's row are turned. -/
structure SeI (X wr : World) (nb N : Nat) (kp st : Nat → Nat) (v : Value) (wk : List Int) : Prop where
  tr : TrN X wr nb
  set : ∀ k, k < N → wr.cell? ⟨nb, k * 3, none⟩ = some (.int .u64 (st k : Int)) ∧ wr.frozen? ⟨nb, k * 3, none⟩ = false
  oth : ∀ k, k < N → wr.cell? ⟨nb, k * 3 + 1, none⟩ = some (.int .u64 (kp k : Int)) ∧ wr.cell? ⟨nb, k * 3 + 2, none⟩ = X.cell? ⟨nb, k * 3 + 2, none⟩
  own : OwnL wr X.heap.size v wk
theorem SeI.gr {X wr : World} {gB nb N : Nat} {nx : Nat → List Int} {kp st0 st : Nat → Nat} {v : Value} {wk : List Int} (h : SeI X wr nb N kp st v wk) (g : Gr X gB nb N nx kp st0) (hb : ∀ k, k < N → st k < 18446744073709551616) : Gr wr gB nb N nx kp st := by
  obtain ⟨cap, hc⟩ := g.c
  refine ⟨⟨cap, (World.cell?_of_block (h.tr.block gB g.lt0 g.ne)).trans hc⟩, g.ne, Nat.lt_of_lt_of_le g.lt h.tr.size, h.set, fun k hk => (h.oth k hk).1, fun k hk => ?_, fun k hk => ⟨hb k hk, (g.bs k hk).2⟩⟩
  obtain ⟨u, h1, h2⟩ := g.next k hk
  exact ⟨u, (h.oth k hk).2.trans h1, h2.keep h.tr.kx⟩
/-- Behind grow. -/
theorem SeI.grow {X wr w' : World} {nb N : Nat} {kp st : Nat → Nat} {v : Value} {wk : List Int} (h : SeI X wr nb N kp st v wk) (hnb : nb < X.heap.size) (a R : Nat) (ha : a < N) (u : UpC wr w' nb (a * 3) (.int .u64 (R : Int))) : SeI X w' nb N kp (upd st a R) v wk := by
  obtain ⟨x, x1, x2, x3, x4, rfl⟩ := u
  have hcell : ∀ c, x.cell? c = wr.cell? c := fun c => by unfold World.cell?; rw [x4]
  have hfro : ∀ c, x.frozen? c = wr.frozen? c := fun c => by unfold World.frozen?; rw [x4]
  have hbl : ∀ k, k ≠ nb → (x.setCell ⟨nb, a * 3, none⟩ (.int .u64 (R : Int))).heap[k]? = wr.heap[k]? := fun k hk => by rw [heap_set _ _ hk, x4]
  refine ⟨⟨x1.trans h.tr.os, x2.trans h.tr.tape, x3.trans h.tr.output, by rw [World.size_setCell, x4]; exact h.tr.size, fun k h1 h2 => (hbl k h2).trans (h.tr.block k h1 h2)⟩, fun k hk => ⟨?_, ?_⟩, fun k hk => ⟨?_, ?_⟩, own_kept h.own (fun b h1 _ => hbl b (by omega))⟩
  · by_cases e : k = a
    · subst e
      rw [upd_self]
      exact cell_same _ ((hcell _).trans (h.set k hk).1)
    · rw [upd_ne st _ e, cell_other _ (Or.inr (by omega)), hcell]
      exact (h.set k hk).1
  · rw [World.frozen?_setCell, hfro]
    exact (h.set k hk).2
  · rw [cell_other _ (Or.inr (by omega)), hcell]
    exact (h.oth k hk).1
  · rw [cell_other _ (Or.inr (by omega)), hcell]
    exact (h.oth k hk).2
theorem SeI.app {X wr : World} {nb N : Nat} {kp st : Nat → Nat} {v : Value} {wk : List Int} (h : SeI X wr nb N kp st v wk) (hnb : nb < X.heap.size) (a : Int) (hn : wk.length < 10000000) :
    ∃ v' w', (Builtin.append_ #[55, 55] 55 #[v, .slice (some ⟨wr.heap.size, 0, none⟩) 1 1]).run Tryz.prog (wr.alloc (.cells #[.int .i64 a] 3)) = .ok v' w' ∧ SeI X w' nb N kp st v' (wk ++ [a]) := by
  obtain ⟨v', w', r1, r2, r3⟩ := own_app1 a h.own h.tr.size hn
  have hb := r3.block nb hnb
  exact ⟨v', w', r1, ⟨r3.os.trans h.tr.os, r3.tape.trans h.tr.tape, r3.output.trans h.tr.output, Nat.le_trans h.tr.size r3.size, fun k h1 h2 => (r3.block k h1).trans (h.tr.block k h1 h2)⟩, fun k hk => ⟨(World.cell?_of_block hb).trans (h.set k hk).1, (World.frozen?_of_block hb).trans (h.set k hk).2⟩, fun k hk => ⟨(World.cell?_of_block hb).trans (h.oth k hk).1, (World.cell?_of_block hb).trans (h.oth k hk).2⟩, r2⟩
/-- The last of the work is taken. -/
theorem own_pop {w : World} {B : Nat} {v : Value} {wk : List Int} {a : Int} (h : OwnL w B v (wk ++ [a])) : ∃ g cap, v = .slice (some ⟨g, 0, none⟩) (wk.length + 1) cap ∧ wk.length < cap ∧ w.cell? ⟨g, wk.length, none⟩ = some (.int .i64 a) ∧ OwnL w B (.slice (some ⟨g, 0, none⟩) wk.length cap) wk := by
  rcases h.2 with ⟨_, e2⟩ | ⟨g, cap, cur, rfl, h2, h3, h4, h5, h6, h7⟩
  · simp at e2
  · simp at h4 h7
    refine ⟨g, cap, by simp, by omega, ?_, ?_⟩
    · rw [cell_of_row _ _ _ _ _ _ h3]
      have : (cur.toList.take (wk.length + 1))[wk.length]? = some (.int .i64 a) := by rw [h7]; simp
      rw [List.getElem?_take] at this
      simpa using this
    · refine ⟨by simp, Or.inr ⟨g, cap, cur, rfl, h2, h3, by omega, h5, h6, ?_⟩⟩
      have : (cur.toList.take (wk.length + 1)).take wk.length = (wk.map (Value.int .i64) ++ [Value.int .i64 a]).take wk.length := by rw [h7]
      rw [List.take_take, List.take_left' (by simp)] at this
      simpa using this
/-- The first work: every node; k of N are written. -/
def wkI (N k : Nat) : List Int := (List.range k).map Int.ofNat ++ List.replicate (N - k) 0
theorem wkI_len (N k : Nat) (h : k ≤ N) : (wkI N k).length = N := by simp [wkI]; omega
theorem wkI_step (N k : Nat) (h : k < N) : (wkI N k).set k (k : Int) = wkI N (k + 1) := by
  unfold wkI
  have e : N - k = (N - (k + 1)) + 1 := by omega
  rw [e, List.replicate_succ, List.range_succ, List.map_append, List.set_append_right _ _ (by simp)]
  simp
theorem SeI.fill {X wr : World} {nb N : Nat} {kp st : Nat → Nat} {k : Nat} (h : SeI X wr nb N kp st (.slice (some ⟨X.heap.size, 0, none⟩) N N) (wkI N k)) (hnb : nb < X.heap.size) (hk : k < N) :
    (∃ u, wr.cell? ⟨X.heap.size, k, none⟩ = some u) ∧ wr.frozen? ⟨X.heap.size, k, none⟩ = false ∧ SeI X (wr.setCell ⟨X.heap.size, k, none⟩ (.int .i64 (k : Int))) nb N kp st (.slice (some ⟨X.heap.size, 0, none⟩) N N) (wkI N (k + 1)) := by
  have hl := wkI_len N k (by omega)
  have hl2 := wkI_len N (k + 1) (by omega)
  have ho : wr.ownsRow X.heap.size 3 1 (.slice (some ⟨X.heap.size, 0, none⟩) N N) N ((wkI N k).map (Value.int .i64)) := by have := h.own; rw [OwnL, hl] at this; exact this
  obtain ⟨s1, s2⟩ := ho.stored k (.int .i64 (k : Int))
  have hbl : ∀ b, b ≠ X.heap.size → (wr.setCell ⟨X.heap.size, k, none⟩ (.int .i64 (k : Int))).heap[b]? = wr.heap[b]? := fun b hb => heap_set _ _ hb
  have hb := hbl nb (by omega)
  refine ⟨⟨_, (ho.cellAt k (by omega)).trans (List.getElem?_eq_getElem (by simp [hl]; omega))⟩, ho.frozenAt k, ⟨⟨h.tr.os, h.tr.tape, h.tr.output, by rw [World.size_setCell]; exact h.tr.size, fun q h1 h2 => (hbl q (by omega)).trans (h.tr.block q h1 h2)⟩, fun q hq => ⟨(World.cell?_of_block hb).trans (h.set q hq).1, (World.frozen?_of_block hb).trans (h.set q hq).2⟩, fun q hq => ⟨(World.cell?_of_block hb).trans (h.oth q hq).1, (World.cell?_of_block hb).trans (h.oth q hq).2⟩, ?_⟩⟩
  show (wr.setCell ⟨X.heap.size, k, none⟩ (.int .i64 (k : Int))).ownsRow X.heap.size 3 1 (.slice (some ⟨X.heap.size, 0, none⟩) N N) (wkI N (k + 1)).length ((wkI N (k + 1)).map (Value.int .i64))
  rw [hl2, ← wkI_step N k hk, List.map_set]
  exact s1
theorem se_start {X : World} {gB nb N : Nat} {nx : Nat → List Int} {kp st : Nat → Nat} (h : Gr X gB nb N nx kp st) (hN : N ≤ 1000000) : SeI X (X.alloc (.cells (madeCells #[.int .i64 0] N) 3)) nb N kp st (.slice (some ⟨X.heap.size, 0, none⟩) N N) (wkI N 0) := by
  have ga := G.alloc X (.cells (madeCells #[.int .i64 0] N) 3)
  have h2 := h.g ga
  refine ⟨TrN.of_G nb ga, h2.set, fun k hk => ⟨h2.kept k hk, World.cell?_of_block (ga.block nb h.lt)⟩, ?_⟩
  show (X.alloc (.cells (madeCells #[.int .i64 0] N) 3)).ownsRow X.heap.size 3 1 (.slice (some ⟨X.heap.size, 0, none⟩) N N) (wkI N 0).length ((wkI N 0).map (Value.int .i64))
  have e : (wkI N 0).map (Value.int .i64) = (madeCells #[.int .i64 0] N).toList := by rw [toList_madeCells_one]; simp [wkI]
  rw [wkI_len N 0 (by omega), e]
  exact World.ownsRow_lit X (madeCells #[.int .i64 0] N) N (Nat.le_refl _) (by unfold maxLen; omega) (by rw [size_madeCells]; omega)
/-- What is read off memory: how much more could be known, how much work there is. -/
def cellN (w : World) (b o : Nat) : Nat := match w.cell? ⟨b, o, none⟩ with
  | some (.int _ z) => z.toNat
  | _ => 0
def lenV : Value → Nat
  | .slice _ n _ => n
  | _ => 0
def muW (nb N : Nat) (v : Value) (w : World) : Nat := 2 * muP (fun k => cellN w nb (k * 3)) N + lenV v
theorem SeI.mu {X wr : World} {nb N : Nat} {kp st : Nat → Nat} {v : Value} {wk : List Int} (h : SeI X wr nb N kp st v wk) : muW nb N v wr = 2 * muP st N + wk.length := by
  unfold muW
  have e1 : muP (fun k => cellN wr nb (k * 3)) N = muP st N := mu_same N (fun k hk => by simp [cellN, (h.set k hk).1])
  have e2 : lenV v = wk.length := by
    rcases h.own.2 with ⟨rfl, e⟩ | ⟨g, cap, cur, rfl, _⟩
    · exact e.symm
    · rfl
  rw [e1, e2]
theorem SeI.g {X wr x : World} {nb N : Nat} {kp st : Nat → Nat} {v : Value} {wk : List Int} (h : SeI X wr nb N kp st v wk) (g : G wr x) (hnb : nb < X.heap.size) : SeI X x nb N kp st v wk := by
  have hb := g.block nb (Nat.lt_of_lt_of_le hnb h.tr.size)
  exact ⟨h.tr.trans (TrN.of_G nb g), fun k hk => ⟨g.cell (h.set k hk).1, (World.frozen?_of_block hb).trans (h.set k hk).2⟩, fun k hk => ⟨g.cell (h.oth k hk).1, (World.cell?_of_block hb).trans (h.oth k hk).2⟩, own_kept h.own (fun b _ h2 => g.block b h2)⟩
/-- What is known in the midst of a node's ways. -/
def SeJ (X wr : World) (nb N : Nat) (nx : Nat → List Int) (kp st0 : Nat → Nat) (f sf M : Nat) (d : List Int) (v : Value) (st : Nat → Nat) (wk : List Int) : Prop :=
  SeI X wr nb N kp st v wk ∧ PJ nx kp N st0 st wk f d ∧ st f = sf ∧ wk.length + muP st N + 1 ≤ 65 * N ∧ 2 * muP st N + wk.length + 1 ≤ M
theorem dec_lt (L j : Nat) (h : j < L) (hb : wrap64 ((j : Int) + 1) = (j : Int) + 1) : L - (intOf (.int .i64 (wrap64 ((j : Int) + 1)))).toNat < L - (intOf (.int .i64 (j : Int))).toNat := by
  rw [hb]
  show L - ((j : Int) + 1).toNat < L - (j : Int).toNat
  omega
set_option maxHeartbeats 1000000 in
theorem settle_any (w : World) (gB nb N : Nat) (nx : Nat → List Int) (kp st0 : Nat → Nat) (h : Gr w gB nb N nx kp st0) (hN : N ≤ 150000) (hT : totN nx N ≤ 900000) :
    Calls Tryz.prog 19 #[.pointer (some ⟨gB, 0, none⟩)] w fun e w' => e = .returned (.tuple #[]) ∧ TrN w w' nb ∧ ∃ st, Gr w' gB nb N nx kp st ∧ PI nx kp N st0 st [] := by
  have AH := hide (ahead_any w gB nb N nx kp st0 h (by omega) hT)
  have H0 := hide h
  clear h hT
  go_enter Tryz.func19, Tryz.ntmps19
  go_wp2_with fail
  refine (unhide AH).mono ?_
  rintro e X ⟨ah, rfl, hA, hmem, hlen⟩
  clear AH
  have hG := (unhide H0).g hA.g
  obtain ⟨ncap, hc13⟩ := hG.c
  have hnb := hG.lt
  have hgne := hG.ne
  have hgl := hG.lt0
  have hwX := hA.g.size
  have hlb := hA.lt
  have GW := hide hA.g
  have HG := hide hG
  have hmk := mk_ints N (by omega) X
  have ST := hide (se_start hG (by omega))
  have NODE : Hid (∀ wr v wk st, SeI X wr nb N kp st v wk → wr.cell? ⟨gB, 13, none⟩ = some (.slice (some ⟨nb, 0, none⟩) N ncap)) := hide (fun wr v wk st H => (World.cell?_of_block (H.tr.block gB hgl hgne)).trans hc13)
  have KPB : Hid (∀ k, k < N → kp k < 18446744073709551616) := hide (fun k hk => (hG.bs k hk).2.1)
  have ROW : Hid (∀ f, f < N → ∃ (vo : Option Addr) (vc : Nat), (∀ x, TrN X x nb → x.cell? ⟨w.heap.size, f, none⟩ = some (.slice vo (ah f).length vc)) ∧ ∀ i, i < (ah f).length → ∃ (b off a : Nat), vo = some ⟨b, off, none⟩ ∧ (ah f)[i]? = some (a : Int) ∧ a < N ∧ (f : Int) ∈ nx a ∧ ∀ x, TrN X x nb → x.cell? ⟨b, off + i, none⟩ = some (.int .i64 (a : Int))) := hide (fun f hf => by
    obtain ⟨v, hv, ho⟩ := hA.rows f hf
    have hwn : w.heap.size ≠ nb := by have := (unhide H0).lt; omega
    have hL := ho.isl
    obtain ⟨vo, vc, rfl, _, hget⟩ := hL.get
    refine ⟨vo, vc, fun x t => (World.cell?_of_block (t.block _ hlb hwn)).trans hv, fun i hi => ?_⟩
    obtain ⟨b, off, z, e, hz, hcell⟩ := hget i hi
    obtain ⟨a, rfl, ha, hfa⟩ := (hmem f z hf).1 (List.mem_of_getElem? hz)
    have hc0 := hcell X (G.refl X)
    have hbx : b < X.heap.size := World.block_lt_of_cell? X _ hc0
    have hbn : b ≠ nb := by
      have h1 := (unhide H0).lt
      rcases ho.2 with ⟨e1, _⟩ | ⟨g, cap, cur, e1, h2, _⟩
      · injection e1 with e1
        rw [e1] at e
        cases e
      · injection e1 with e1
        rw [e1] at e
        cases e
        omega
    exact ⟨b, off, a, e, hz, ha, hfa, fun x t => (World.cell?_of_block (t.block b hbx hbn)).trans hc0⟩)
  have PST : Hid (PI nx kp N st0 st0 (wkI N N)) := hide (pi_start nx kp N st0 (fun k hk => (hG.bs k hk).1) _ (fun q hq => by simp [wkI]; exact ⟨q, hq, rfl⟩) (fun q hq => by simp [wkI] at hq; obtain ⟨k, hk, rfl⟩ := hq; simp; omega))
  have MEM : Hid (∀ f a, f < N → a < N → (f : Int) ∈ nx a → (a : Int) ∈ ah f) := hide (fun f a hf ha hm => (hmem f a hf).2 ⟨a, rfl, ha, hm⟩)
  have FIN : Hid (∀ wr v st, SeI X wr nb N kp st v [] → PI nx kp N st0 st [] → TrN w wr nb ∧ ∃ st, Gr wr gB nb N nx kp st ∧ PI nx kp N st0 st []) := hide (fun wr v st H P => ⟨(TrN.of_G nb (unhide GW)).trans H.tr, st, H.gr (unhide HG) P.bd, P⟩)
  have GROW : Hid (∀ (wr : World) (st : Nat → Nat) (a sf : Nat), (∀ k, k < N → wr.cell? ⟨nb, k * 3, none⟩ = some (.int .u64 (st k : Int)) ∧ wr.frozen? ⟨nb, k * 3, none⟩ = false) → (∀ k, k < N → wr.cell? ⟨nb, k * 3 + 1, none⟩ = some (.int .u64 (kp k : Int))) → (∀ k, k < N → st k < 18446744073709551616) → a < N → sf < 18446744073709551616 → Calls Tryz.prog 38 #[.pointer (some ⟨nb, a * 3, none⟩), .int .u64 (sf : Int)] wr fun e w' => e = .returned (.bool (!decide (st a ||| (sf &&& kp a) = st a))) ∧ UpC wr w' nb (a * 3) (.int .u64 ((st a ||| (sf &&& kp a) : Nat) : Int))) := hide (fun wr st a sf h1 h2 h3 ha hs => grow_any wr nb (a * 3) (st a) (kp a) sf (h3 a ha) (unhide KPB a ha) hs (h1 a ha).1 (h2 a ha) (h1 a ha).2)
  have HLEN := hide hlen
  clear hG hA hmem H0 hlen
  go_wp2_with fail
  go_loopw [19] (fun i wr => ∃ k : Nat, k ≤ N ∧ i = .int .i64 k ∧ Hid (SeI X wr nb N kp st0 (.slice (some ⟨X.heap.size, 0, none⟩) N N) (wkI N k))) (fun i _ => N - (intOf i).toNat)
  case atStart => exact ⟨0, Nat.zero_le _, rfl, ST⟩
  case round =>
    obtain ⟨k, hk, rfl, HS⟩ := hrel
    clear ST hmk hc13
    by_cases hlt : k < N
    · obtain ⟨⟨u, hu⟩, hf, HS2⟩ := (unhide HS).fill hnb hlt
      replace HS2 := hide HS2
      clear HS FIN GROW NODE KPB ROW PST MEM GW HG
      go_wp2_with fail
      go_roundw
      case rel => exact ⟨k + 1, by omega, by go_num, HS2⟩
      case measure => simp [intOf]; omega
    · obtain rfl : k = N := by omega
      have HB : Hid (SeI X wr nb k kp st0 (.slice (some ⟨X.heap.size, 0, none⟩) k k) (wkI k k) ∧ PI nx kp k st0 st0 (wkI k k) ∧ (wkI k k).length + muP st0 k ≤ 65 * k) := hide ⟨unhide HS, unhide PST, by rw [wkI_len k k (Nat.le_refl _)]; have := mu_le st0 k; omega⟩
      clear HS PST GW HG
      obtain ⟨N, hNN⟩ : ∃ N, N = k := ⟨_, rfl⟩
      subst hNN
      go_wp2_with fail
      go_loopw [3] (fun v wr => ∃ (st : Nat → Nat) (wk : List Int), Hid (SeI X wr nb N kp st v wk ∧ PI nx kp N st0 st wk ∧ wk.length + muP st N ≤ 65 * N)) (fun v wr => muW nb N v wr)
      case atStart => exact ⟨st0, _, HB⟩
      case round =>
        obtain ⟨st, wk, HS⟩ := hrel
        clear HB
        by_cases hw : wk = []
        · subst hw
          have hv : ∃ ao c, u3 = .slice ao 0 c := by
            rcases (unhide HS).1.own.2 with ⟨e1, _⟩ | ⟨g, cap, cur, e1, _⟩
            · exact ⟨_, _, e1⟩
            · exact ⟨_, _, e1⟩
          obtain ⟨ao, c, rfl⟩ := hv
          have K := hide (unhide FIN wr _ st (unhide HS).1 (unhide HS).2.1)
          clear HS FIN GROW NODE KPB ROW MEM
          go_wp2_with fail
          go_end0
          exact ⟨rfl, unhide K⟩
        · obtain ⟨wk', z, rfl⟩ : ∃ wk' z, wk = wk' ++ [z] := ⟨wk.dropLast, wk.getLast hw, (List.dropLast_concat_getLast hw).symm⟩
          obtain ⟨hz0, hz1⟩ := (unhide HS).2.1.wb z (by simp)
          obtain ⟨f, rfl⟩ : ∃ f : Nat, z = f := ⟨z.toNat, by omega⟩
          have hfN : f < N := by omega
          obtain ⟨g, cap, rfl, hgc, hcell, OW⟩ := own_pop (unhide HS).1.own
          obtain ⟨vo, vc, hrow, GET⟩ := unhide ROW f hfN
          have hr1 := hrow wr (unhide HS).1.tr
          obtain ⟨M, hM⟩ : ∃ M, M = muW nb N (.slice (some ⟨g, 0, none⟩) (wk'.length + 1) cap) wr := ⟨_, rfl⟩
          obtain ⟨sf, hsf⟩ : ∃ sf, sf = st f := ⟨_, rfl⟩
          have hsfb : sf < 18446744073709551616 := by rw [hsf]; exact (unhide HS).2.1.bd f hfN
          have HJ : Hid (SeJ X wr nb N nx kp st0 f sf M ((ah f).take 0) (.slice (some ⟨g, 0, none⟩) wk'.length cap) st wk') := hide (by
            have hmu := (unhide HS).1.mu
            have hb := (unhide HS).2.2
            rw [List.length_append] at hb hmu
            simp at hb hmu
            refine ⟨⟨(unhide HS).1.tr, (unhide HS).1.set, (unhide HS).1.oth, OW⟩, (unhide HS).2.1.pop, hsf.symm, by omega, by rw [hM, hmu]; omega⟩)
          have TK : Hid (∀ wr st v wk, SeJ X wr nb N nx kp st0 f sf M ((ah f).take (ah f).length) v st wk → (SeI X wr nb N kp st v wk ∧ PI nx kp N st0 st wk ∧ wk.length + muP st N ≤ 65 * N) ∧ muW nb N v wr < M) := hide (fun wr st v wk H => by
            obtain ⟨h1, h2, h3, h4, h5⟩ := H
            rw [List.take_of_length_le (Nat.le_refl _)] at h2
            refine ⟨⟨h1, h2.done (fun a ha hm => unhide MEM f a hfN ha hm), by omega⟩, ?_⟩
            rw [h1.mu]
            omega)
          obtain ⟨L, hL⟩ : ∃ L, L = (ah f).length := ⟨_, rfl⟩
          have hLb : Hid (L ≤ 900000) := hide (by rw [hL]; exact unhide HLEN f)
          rw [← hL] at hr1 GET TK
          have STEP : Hid (∀ wr w' st v wk j a, SeJ X wr nb N nx kp st0 f sf M ((ah f).take j) v st wk → (ah f)[j]? = some ((a : Nat) : Int) → a < N → (f : Int) ∈ nx a → UpC wr w' nb (a * 3) (.int .u64 ((st a ||| (sf &&& kp a) : Nat) : Int)) → (decide (st a ||| (sf &&& kp a) = st a) = true → ∃ st', SeJ X w' nb N nx kp st0 f sf M ((ah f).take (j + 1)) v st' wk) ∧ (decide (st a ||| (sf &&& kp a) = st a) = false → ∃ v' w2, (Builtin.append_ #[55, 55] 55 #[v, .slice (some ⟨w'.heap.size, 0, none⟩) 1 1]).run Tryz.prog (w'.alloc (.cells #[.int .i64 (a : Int)] 3)) = .ok v' w2 ∧ ∃ st', SeJ X w2 nb N nx kp st0 f sf M ((ah f).take (j + 1)) v' st' (wk ++ [(a : Int)]))) := hide (fun wr w' st v wk j a H hj ha hfa hu => by
            obtain ⟨h1, h2, h3, h4, h5⟩ := H
            have hg := h1.grow hnb a _ ha hu
            have hs := h2.step hfN ha hfa
            rw [h3] at hs
            have ht : (ah f).take (j + 1) = (ah f).take j ++ [(a : Int)] := by rw [List.take_add_one, hj]; rfl
            have hfe : upd st a (st a ||| (sf &&& kp a)) f = sf := by
              by_cases e : f = a
              · subst e
                rw [upd_self, h3]
                refine Nat.eq_of_testBit_eq (fun s => ?_)
                rw [Nat.testBit_or, Nat.testBit_and]
                cases sf.testBit s <;> simp
              · rw [upd_ne _ _ e]; exact h3
            refine ⟨fun hq => ?_, fun hq => ?_⟩
            · have hq := of_decide_eq_true hq
              rw [if_pos hq] at hs
              have hmu : muP (upd st a (st a ||| (sf &&& kp a))) N = muP st N := by rw [hq, upd_same]
              rw [ht]
              exact ⟨_, hg, hs, hfe, by rw [hmu]; exact h4, by rw [hmu]; exact h5⟩
            · have hq := of_decide_eq_false hq
              rw [if_neg hq] at hs
              have hmu := mu_upd st a (st a ||| (sf &&& kp a)) (zc_lt (h2.bd a ha) (Nat.lt_of_le_of_lt Nat.and_le_left hsfb) hq) N ha
              obtain ⟨v', w2, r1, r2⟩ := hg.app hnb (a : Int) (by omega)
              rw [ht]
              exact ⟨v', w2, r1, _, r2, hs, hfe, by rw [List.length_append]; simp; omega, by rw [List.length_append]; simp; omega⟩)
          have INF : Hid (∀ wr st v wk d, SeJ X wr nb N nx kp st0 f sf M d v st wk → (∀ x, G wr x → SeJ X x nb N nx kp st0 f sf M d v st wk) ∧ wr.cell? ⟨gB, 13, none⟩ = some (.slice (some ⟨nb, 0, none⟩) N ncap) ∧ wr.cell? ⟨nb, f * 3, none⟩ = some (.int .u64 (sf : Int)) ∧ TrN X wr nb) := hide (fun wr st v wk d H => ⟨fun x gx => ⟨H.1.g gx hnb, H.2⟩, unhide NODE wr v wk st H.1, by have := (H.1.set f hfN).1; rw [H.2.2.1] at this; exact this, H.1.tr⟩)
          replace GET := hide GET
          have hMO : Hid (M = muW nb N (.slice (some ⟨g, 0, none⟩) (wk'.length + 1) cap) wr) := hide hM
          have hql : wk'.length ≤ 10000000 := by have := (unhide HJ).2.2.2.1; omega
          have hqw : wrap64 (wk'.length : Int) = (wk'.length : Int) := by unfold wrap64; omega
          clear HS hsf hrow OW hM hL FIN NODE KPB ROW MEM
          go_wp2_with fail
          go_loopw [3, 45] (fun v i wx => ∃ (j : Nat) (st : Nat → Nat) (wk : List Int), j ≤ L ∧ i = .int .i64 j ∧ Hid (SeJ X wx nb N nx kp st0 f sf M ((ah f).take j) v st wk)) (fun _ i _ => L - (intOf i).toNat)
          case atStart => exact ⟨0, st, wk', Nat.zero_le _, rfl, HJ⟩
          case round =>
            obtain ⟨j, st2, wk2, hj, rfl, HC⟩ := hrel
            clear HJ hcell hr1
            by_cases hlj : j < L
            · obtain ⟨b, off, a, rfl, haj, haN, hfa, hcl⟩ := unhide GET j hlj
              obtain ⟨SG, c13, cf, htr⟩ := unhide INF wr st2 _ wk2 _ (unhide HC)
              have hca := hcl wr htr
              have hjb : wrap64 ((j : Int) + 1) = (j : Int) + 1 := by have := unhide hLb; unfold wrap64; omega
              have haI : (a : Int) < (N : Int) := by omega
              have hfI : (f : Int) < (N : Int) := by omega
              obtain ⟨y0, hy0⟩ : ∃ y, y = wr.drew := ⟨_, rfl⟩
              have gy : G wr y0 := by rw [hy0]; exact (G.refl wr).drew
              have HY := SG y0 gy
              have d13 := gy.cell c13
              have df := gy.cell cf
              have GR := hide (unhide GROW y0 st2 a sf HY.1.set (fun k hk => (HY.1.oth k hk).1) HY.2.1.bd haN hsfb)
              have SP := hide (fun w' hu => unhide STEP y0 w' st2 _ wk2 j a HY haj haN hfa hu)
              have KS : Hid (∀ w', UpC y0 w' nb (a * 3) (.int .u64 ((st2 a ||| (sf &&& kp a) : Nat) : Int)) → w'.cell? ⟨gB, 13, none⟩ = some (.slice (some ⟨nb, 0, none⟩) N ncap) ∧ w'.cell? ⟨nb, f * 3, none⟩ = some (.int .u64 (sf : Int))) := hide (fun w' hu => by
                obtain ⟨h1, h2⟩ := unhide SP w' hu
                have hg := HY.1.grow hnb a _ haN hu
                have hfe : upd st2 a (st2 a ||| (sf &&& kp a)) f = sf := by
                  by_cases e : f = a
                  · subst e
                    rw [upd_self, HY.2.2.1]
                    refine Nat.eq_of_testBit_eq (fun s => ?_)
                    rw [Nat.testBit_or, Nat.testBit_and]
                    cases sf.testBit s <;> simp
                  · rw [upd_ne _ _ e]; exact HY.2.2.1
                refine ⟨?_, ?_⟩
                · have hb := hg.tr.block gB hgl hgne
                  have hb0 := HY.1.tr.block gB hgl hgne
                  rw [World.cell?_of_block (a := ⟨gB, 13, none⟩) hb, ← World.cell?_of_block (a := ⟨gB, 13, none⟩) hb0]
                  exact d13
                · have := (hg.set f hfN).1
                  rw [hfe] at this
                  exact this)
              obtain ⟨q, hq⟩ : ∃ q : Bool, q = decide (st2 a ||| (sf &&& kp a) = st2 a) := ⟨_, rfl⟩
              obtain ⟨R, hR⟩ : ∃ R, R = st2 a ||| (sf &&& kp a) := ⟨_, rfl⟩
              rw [← hR] at GR SP KS hq
              rw [← hq] at GR SP
              clear HC HY SG STEP GROW INF haj hfa hcl htr GET TK hq hR
              go_wp2_with fail
              refine wp_region_noPanic ?_
              refine wp_region_held_drew (S := fun x => x.cell? ⟨gB, 13, none⟩ = some (.slice (some ⟨nb, 0, none⟩) N ncap) ∧ x.cell? ⟨nb, f * 3, none⟩ = some (.int .u64 (sf : Int))) (by kernel_rfl) (by rw [← hy0]; exact ⟨d13, df⟩) (fun hHeld => ?_)
              rw [← hy0] at hHeld ⊢
              clear hy0 gy c13 cf d13 df
              refine wpAnyH_take (i := 0) (v := .pointer (some ⟨gB, 0, none⟩)) rfl (by kernel_rfl) (by kernel_rfl) (by kernel_rfl) (fun _ _ _ h => h) (Or.inl ⟨by rfl, fun w hSw => by obtain ⟨t0, t1⟩ := hSw; go_simp⟩) (by assumption) ?_
              try simp only [Act.put, List.getElem_toArray, List.getElem_cons_zero, List.setIfInBounds_toArray, List.set_cons_zero, List.set_cons_succ]
              refine wpAnyH_take (i := 1) (v := .pointer (some ⟨gB, 0, none⟩)) rfl (by kernel_rfl) (by kernel_rfl) (by kernel_rfl) (fun _ _ _ h => h) (Or.inl ⟨by rfl, fun w hSw => by obtain ⟨t0, t1⟩ := hSw; go_simp⟩) (by assumption) ?_
              try simp only [Act.put, List.getElem_toArray, List.getElem_cons_succ, List.getElem_cons_zero, List.setIfInBounds_toArray, List.set_cons_zero, List.set_cons_succ]
              refine wpAnyH_take (i := 2) (v := .pointer (some ⟨gB, 13, none⟩)) rfl (by kernel_rfl) (by kernel_rfl) (by kernel_rfl) (fun _ _ _ h => h) (Or.inl ⟨by rfl, fun w hSw => by obtain ⟨t0, t1⟩ := hSw; go_simp⟩) (by assumption) ?_
              try simp only [Act.put, List.getElem_toArray, List.getElem_cons_succ, List.getElem_cons_zero, List.setIfInBounds_toArray, List.set_cons_zero, List.set_cons_succ]
              refine wpAnyH_take (i := 3) (v := .slice (some ⟨nb, 0, none⟩) N ncap) rfl (by kernel_rfl) (by kernel_rfl) (by kernel_rfl) (fun _ _ _ h => h) (Or.inl ⟨by rfl, fun w hSw => by obtain ⟨t0, t1⟩ := hSw; go_simp⟩) (by assumption) ?_
              try simp only [Act.put, List.getElem_toArray, List.getElem_cons_succ, List.getElem_cons_zero, List.setIfInBounds_toArray, List.set_cons_zero, List.set_cons_succ]
              refine wpAnyH_take (i := 4) (v := .int .i64 (a : Int)) rfl (by kernel_rfl) (by kernel_rfl) (by kernel_rfl) (fun _ _ _ h => h) (Or.inl ⟨by rfl, fun w hSw => by obtain ⟨t0, t1⟩ := hSw; go_simp⟩) (by assumption) ?_
              try simp only [Act.put, List.getElem_toArray, List.getElem_cons_succ, List.getElem_cons_zero, List.setIfInBounds_toArray, List.set_cons_zero, List.set_cons_succ]
              refine wpAnyH_take (i := 5) (v := .pointer (some ⟨nb, a * 3, none⟩)) rfl (by kernel_rfl) (by kernel_rfl) (by kernel_rfl) (fun _ _ _ h => h) (Or.inl ⟨by rfl, fun w hSw => by obtain ⟨t0, t1⟩ := hSw; go_simp⟩) (by assumption) ?_
              try simp only [Act.put, List.getElem_toArray, List.getElem_cons_succ, List.getElem_cons_zero, List.setIfInBounds_toArray, List.set_cons_zero, List.set_cons_succ]
              refine wpAnyH_take (i := 6) (v := .pointer (some ⟨gB, 0, none⟩)) rfl (by kernel_rfl) (by kernel_rfl) (by kernel_rfl) (fun _ _ _ h => h) (Or.inl ⟨by rfl, fun w hSw => by obtain ⟨t0, t1⟩ := hSw; go_simp⟩) (by assumption) ?_
              try simp only [Act.put, List.getElem_toArray, List.getElem_cons_succ, List.getElem_cons_zero, List.setIfInBounds_toArray, List.set_cons_zero, List.set_cons_succ]
              refine wpAnyH_take (i := 7) (v := .pointer (some ⟨gB, 0, none⟩)) rfl (by kernel_rfl) (by kernel_rfl) (by kernel_rfl) (fun _ _ _ h => h) (Or.inl ⟨by rfl, fun w hSw => by obtain ⟨t0, t1⟩ := hSw; go_simp⟩) (by assumption) ?_
              try simp only [Act.put, List.getElem_toArray, List.getElem_cons_succ, List.getElem_cons_zero, List.setIfInBounds_toArray, List.set_cons_zero, List.set_cons_succ]
              refine wpAnyH_take (i := 8) (v := .pointer (some ⟨gB, 13, none⟩)) rfl (by kernel_rfl) (by kernel_rfl) (by kernel_rfl) (fun _ _ _ h => h) (Or.inl ⟨by rfl, fun w hSw => by obtain ⟨t0, t1⟩ := hSw; go_simp⟩) (by assumption) ?_
              try simp only [Act.put, List.getElem_toArray, List.getElem_cons_succ, List.getElem_cons_zero, List.setIfInBounds_toArray, List.set_cons_zero, List.set_cons_succ]
              refine wpAnyH_take (i := 9) (v := .slice (some ⟨nb, 0, none⟩) N ncap) rfl (by kernel_rfl) (by kernel_rfl) (by kernel_rfl) (fun _ _ _ h => h) (Or.inl ⟨by rfl, fun w hSw => by obtain ⟨t0, t1⟩ := hSw; go_simp⟩) (by assumption) ?_
              try simp only [Act.put, List.getElem_toArray, List.getElem_cons_succ, List.getElem_cons_zero, List.setIfInBounds_toArray, List.set_cons_zero, List.set_cons_succ]
              refine wpAnyH_take (i := 10) (v := .int .i64 (f : Int)) rfl (by kernel_rfl) (by kernel_rfl) (by kernel_rfl) (fun _ _ _ h => h) (Or.inl ⟨by rfl, fun w hSw => by obtain ⟨t0, t1⟩ := hSw; go_simp⟩) (by assumption) ?_
              try simp only [Act.put, List.getElem_toArray, List.getElem_cons_succ, List.getElem_cons_zero, List.setIfInBounds_toArray, List.set_cons_zero, List.set_cons_succ]
              refine wpAnyH_take (i := 11) (v := .pointer (some ⟨nb, f * 3, none⟩)) rfl (by kernel_rfl) (by kernel_rfl) (by kernel_rfl) (fun _ _ _ h => h) (Or.inl ⟨by rfl, fun w hSw => by obtain ⟨t0, t1⟩ := hSw; go_simp⟩) (by assumption) ?_
              try simp only [Act.put, List.getElem_toArray, List.getElem_cons_succ, List.getElem_cons_zero, List.setIfInBounds_toArray, List.set_cons_zero, List.set_cons_succ]
              refine wpAnyH_take (i := 12) (v := .pointer (some ⟨nb, f * 3, none⟩)) rfl (by kernel_rfl) (by kernel_rfl) (by kernel_rfl) (fun _ _ _ h => h) (Or.inl ⟨by rfl, fun w hSw => by obtain ⟨t0, t1⟩ := hSw; go_simp⟩) (by assumption) ?_
              try simp only [Act.put, List.getElem_toArray, List.getElem_cons_succ, List.getElem_cons_zero, List.setIfInBounds_toArray, List.set_cons_zero, List.set_cons_succ]
              refine wpAnyH_take (i := 13) (v := .int .u64 (sf : Int)) rfl (by kernel_rfl) (by kernel_rfl) (by kernel_rfl) (fun _ _ _ h => h) (Or.inl ⟨by rfl, fun w hSw => by obtain ⟨t0, t1⟩ := hSw; go_simp⟩) (by assumption) ?_
              try simp only [Act.put, List.getElem_toArray, List.getElem_cons_succ, List.getElem_cons_zero, List.setIfInBounds_toArray, List.set_cons_zero, List.set_cons_succ]
              refine wpAnyH_ready (rs := [14]) (by kernel_rfl) (by simp) ?_
              refine AllReadyH.cons rfl (fun K hK => ?_) AllReadyH.nil
              go_simp
              refine (unhide GR).mono ?_
              rintro e y1 ⟨rfl, hu⟩
              go_wp2_with fail
              refine hK.out _ _ (unhide KS y1 hu) (fun hHeld2 => ?_)
              clear hK K
              try simp only [Act.put, List.getElem_toArray, List.getElem_cons_succ, List.getElem_cons_zero, List.setIfInBounds_toArray, List.set_cons_zero, List.set_cons_succ]
              refine wpAnyH_done (by kernel_rfl) (NoPanic.normal ?_) _
              obtain ⟨n1, n2⟩ := unhide SP y1 hu
              clear hHeld hHeld2 hu SP KS GR
              clear hql hqw hgne hgl hwX hlb hca haI hfI hMO hw hz0 hz1 hk hlt HLEN
              cases q
              · have AP := hide (n2 rfl)
                clear n1 n2
                go_wp2_with (at_builtin; obtain ⟨v', w2, hrun, st', HG2⟩ := unhide AP; replace HG2 := hide HG2; refine wpl_run rfl (.tmp 64) (.tmp 66) 55 rfl _ _ rfl rfl _ _ hrun ?_; clear hrun AP)
                go_roundw
                case rel => exact ⟨j + 1, st', _, hlj, by rw [hjb]; rfl, HG2⟩
                case measure => exact dec_lt L j hlj hjb
              · obtain ⟨st', HG2⟩ := n1 rfl
                replace HG2 := hide HG2
                clear n1 n2
                go_wp2_with fail
                go_roundw
                case rel => exact ⟨j + 1, st', _, hlj, by rw [hjb]; rfl, HG2⟩
                case measure => exact dec_lt L j hlj hjb
            · obtain rfl : j = L := by omega
              obtain ⟨t1, t2⟩ := unhide TK wr st2 _ wk2 (unhide HC)
              replace t1 := hide t1
              replace t2 := hide t2
              clear HC GET TK STEP GROW INF
              go_wp2_with fail
              go_roundw
              case rel => exact ⟨st2, wk2, t1⟩
              case measure =>
                have h1 := unhide t2
                rw [unhide hMO] at h1
                exact h1
end Go.Proofs.YtnliooflpclcbaaGreatDoor
