/- Package fresh: what is known behind a node. -/
import Derived.Test.YtiangegoglfpeaaDoorFrCome
import Derived.Test.YtiangegoglfpeaaDoorFrPass
import Derived.Test.YtiangegoglfpeaaDoorFrCover
namespace Go.Proofs.YtiangegoglfpeaaDoor
set_option maxRecDepth 100000
open Go.RowKit Go.Maps Go.ChangeShapes Go.WideShapes Go.ChangeAt Go.Deep

/-- Where the module's, the function's and the cases' rows lie. -/
structure Gk where
  so : Option Addr
  sc : Nat
  go : Option Addr
  gc : Nat
  co : Option Addr
  cc : Nat
  ao : Option Addr
  ac : Nat
  fo : Option Addr
  fc : Nat
  ko : Option Addr
  kc : Nat
  io : Option Addr
  ic : Nat
  mo : Option Addr
  mc : Nat
  sb : Option Addr
  s2 : Nat
  rb : Option Addr
  r2 : Nat
/-- The graph's first cells. -/
def gC (z : Gk) (m : Md) (f : Fn) (ab wb N : Nat) : List Value := [.slice z.so m.sh.length z.sc, .slice z.go m.gl.length z.gc, .slice z.co m.co.length z.cc, .slice z.ao m.ca.length z.ac, .slice z.fo m.fn.length z.fc, .int .i64 m.main, .int .i64 f.p, .int .i64 f.c, .int .i64 f.s, .int .i64 f.r, .slice z.ko f.ks.length z.kc, .slice z.io f.is.length z.ic, .slice z.mo f.ms.length z.mc, .slice z.ao m.ca.length z.ac, .slice z.sb (2 * m.ca.length) z.s2, .slice z.rb (2 * m.ca.length) z.r2, .slice (some ⟨ab, 0, none⟩) N N, .slice (some ⟨wb, 0, none⟩) N N]
/-- What lies there from the start, and is not turned. -/
structure StA (W0 : World) (z : Gk) (m : Md) (f : Fn) (S R : List Nat) : Prop where
  hm : ModR W0 m z.so z.sc z.go z.gc z.co z.cc z.ao z.ac z.fo z.fc
  hi : RowAt elIn W0 z.io f.is.length z.ic f.is
  hs : RowAt elU W0 z.sb (2 * m.ca.length) z.s2 S
  hr : RowAt elU W0 z.rb (2 * m.ca.length) z.r2 R
  ht : TabZ W0
  hw : RowsAt W0
  oi : ∀ x ∈ f.is, oIn x
  oc : ∀ c ∈ m.ca, oCa c
  hso : ∀ x ∈ S, x < 18446744073709551616
  hro : ∀ x ∈ R, x < 18446744073709551616
  nc : m.ca.length ≤ 1000000
  ni : f.is.length ≤ 1000000
  two : 2 ≤ W0.heap.size
def selK (S R : List Nat) (l : List Int) (k : Kn) : Kn := l.foldl (fun k x => (k.hand (S.getD x.toNat 0)).forget (R.getD x.toNat 0)) k
def bhP (m : Md) (f : Fn) (S R : List Nat) (at_ : Nat) (k : Kn) : Kn := match f.is[at_]? with
  | none => k
  | some i => if i.op = 41 then selK S R (covP m.ca.length i.a i.b) (k.pass m i) else k.pass m i
theorem sel_ok (S R : List Nat) : ∀ (l : List Int) (k : Kn), k.Ok → (selK S R l k).Ok
  | [], _, h => h
  | _ :: l, _, h => sel_ok S R l _ ((h.hand _).forget _)
theorem sel_snoc (S R : List Nat) (l : List Int) (x : Int) (k : Kn) : selK S R (l ++ [x]) k = ((selK S R l k).hand (S.getD x.toNat 0)).forget (R.getD x.toNat 0) := by simp [selK]
theorem bh_ok (m : Md) (f : Fn) (S R : List Nat) (n : Nat) (k : Kn) (h : k.Ok) : (bhP m f S R n k).Ok := by
  unfold bhP
  split
  · exact h
  · split
    · exact sel_ok _ _ _ _ (h.pass _ _)
    · exact h.pass _ _
theorem res_known {fn : Func} {p : Tmp} (h : fn.results = #[.cell p 73]) (tmps : Array Value) (w : World) (b : Nat) (k : Kn) (hp : tmps.getD p undef = .pointer (some ⟨b, 0, none⟩)) (hk : KnAt w b k) : (results fn tmps).run Tryd.prog w = .ok (.agg (knC k).toArray) w := by
  have hp' : tmps[p]?.getD undef = .pointer (some ⟨b, 0, none⟩) := by simpa using hp
  have hl := run_loadVar_mid (P := Tryd.prog) w b 0 73 (knC k) _ hk.r Tryd.underlying73 rfl (by rw [knC_len hk.ok]; exact info_known)
  simp [results, h, hp', asAddr, hl]
/-- A word of a row of words. -/
theorem rowU_get {w : World} {ao : Option Addr} {n c : Nat} {l : List Nat} (h : RowAt elU w ao n c l) (k : Nat) (hk : k < n) : ∃ b off, ao = some ⟨b, off, none⟩ ∧ ∀ x, G w x → x.cell? ⟨b, off + k, none⟩ = some (.int .u64 ((l.getD k 0 : Nat) : Int)) := by
  obtain ⟨b, off, a, cs, e, ha, ecs, hcs⟩ := row_get h hk
  have ecs : cs = [.int .u64 (a : Int)] := ecs
  subst ecs
  refine ⟨b, off, e, fun x g => ?_⟩
  have := hcs x g 0 _ rfl
  rw [getD_of ha]
  simpa [elU] using this
theorem rowI_get {w : World} {ao : Option Addr} {n c : Nat} {l : List In} (h : RowAt elIn w ao n c l) (k : Nat) (i : In) (hi : l[k]? = some i) : ∃ b off, ao = some ⟨b, off, none⟩ ∧ ∀ x, G w x → x.cell? ⟨b, off + k * 5, none⟩ = some (.int .i64 i.op) ∧ x.cell? ⟨b, off + k * 5 + 1, none⟩ = some (.int .i64 i.a) ∧ x.cell? ⟨b, off + k * 5 + 2, none⟩ = some (.int .i64 i.b) ∧ x.cell? ⟨b, off + k * 5 + 3, none⟩ = some (.int .i64 i.c) ∧ x.cell? ⟨b, off + k * 5 + 4, none⟩ = some (.int .i64 i.d) := by
  have hk : k < n := by rw [← h.1]; exact (List.getElem?_eq_some_iff.1 hi).1
  obtain ⟨b, off, a, cs, e, ha, ecs, hcs⟩ := row_get h hk
  rw [hi] at ha
  cases ha
  have ecs : cs = [.int .i64 i.op, .int .i64 i.a, .int .i64 i.b, .int .i64 i.c, .int .i64 i.d] := ecs
  subst ecs
  exact ⟨b, off, e, fun x g => ⟨hcs x g 0 _ rfl, hcs x g 1 _ rfl, hcs x g 2 _ rfl, hcs x g 3 _ rfl, hcs x g 4 _ rfl⟩⟩
theorem gc_cells {w : World} {gB : Nat} {z : Gk} {m : Md} {f : Fn} {ab wb N : Nat} (h : w.rangeAt gB 0 (gC z m f ab wb N)) :
    w.cell? ⟨gB, 0, none⟩ = some (.slice z.so m.sh.length z.sc) ∧ w.cell? ⟨gB, 1, none⟩ = some (.slice z.go m.gl.length z.gc) ∧ w.cell? ⟨gB, 2, none⟩ = some (.slice z.co m.co.length z.cc) ∧ w.cell? ⟨gB, 3, none⟩ = some (.slice z.ao m.ca.length z.ac) ∧ w.cell? ⟨gB, 4, none⟩ = some (.slice z.fo m.fn.length z.fc) ∧ w.cell? ⟨gB, 5, none⟩ = some (.int .i64 m.main) ∧
    w.cell? ⟨gB, 6, none⟩ = some (.int .i64 f.p) ∧ w.cell? ⟨gB, 7, none⟩ = some (.int .i64 f.c) ∧ w.cell? ⟨gB, 8, none⟩ = some (.int .i64 f.s) ∧ w.cell? ⟨gB, 9, none⟩ = some (.int .i64 f.r) ∧ w.cell? ⟨gB, 10, none⟩ = some (.slice z.ko f.ks.length z.kc) ∧ w.cell? ⟨gB, 11, none⟩ = some (.slice z.io f.is.length z.ic) ∧ w.cell? ⟨gB, 12, none⟩ = some (.slice z.mo f.ms.length z.mc) ∧
    w.cell? ⟨gB, 13, none⟩ = some (.slice z.ao m.ca.length z.ac) ∧ w.cell? ⟨gB, 14, none⟩ = some (.slice z.sb (2 * m.ca.length) z.s2) ∧ w.cell? ⟨gB, 15, none⟩ = some (.slice z.rb (2 * m.ca.length) z.r2) ∧ w.cell? ⟨gB, 16, none⟩ = some (.slice (some ⟨ab, 0, none⟩) N N) ∧ w.cell? ⟨gB, 17, none⟩ = some (.slice (some ⟨wb, 0, none⟩) N N) := by
  have g : ∀ j v, (gC z m f ab wb N)[j]? = some v → w.cell? ⟨gB, j, none⟩ = some v := fun j v hv => by have := h j v hv; rwa [Nat.zero_add] at this
  exact ⟨g 0 _ rfl, g 1 _ rfl, g 2 _ rfl, g 3 _ rfl, g 4 _ rfl, g 5 _ rfl, g 6 _ rfl, g 7 _ rfl, g 8 _ rfl, g 9 _ rfl, g 10 _ rfl, g 11 _ rfl, g 12 _ rfl, g 13 _ rfl, g 14 _ rfl, g 15 _ rfl, g 16 _ rfl, g 17 _ rfl⟩
set_option maxHeartbeats 1000000 in
theorem behind_out {W0 : World} {M : Nat → Prop} {B gB ab wb N : Nat} {z : Gk} {m : Md} {f : Fn} {S R : List Nat} {w : World} {s : FSt} {P : Nat → Nat} {qv : Value} (h : GI W0 M B gB ab wb N (gC z m f ab wb N) w s P qv) (n : Nat) (k : Kn) (hn : n < N) (ha : s.A.getD n none = some k) (hout : f.is.length ≤ n) :
    Calls Tryd.prog 37 #[.pointer (some ⟨gB, 0, none⟩), .int .i64 (n : Int)] w fun e w' => e = .returned (.agg (knC (bhP m f S R n k)).toArray) ∧ G w w' := by
  have e : bhP m f S R n k = k := by unfold bhP; rw [List.getElem?_eq_none hout]
  rw [e]
  obtain ⟨_, _, _, _, _, _, _, _, _, _, _, c11, _, _, _, _, c16, _⟩ := gc_cells h.q.s
  obtain ⟨ca, kj, _⟩ := h.a1 n k hn ha
  have hnI : (n : Int) < (N : Int) := by omega
  have hn0 : (0 : Int) ≤ (n : Int) := by omega
  have hge : (f.is.length : Int) ≤ (n : Int) := by omega
  have hd : decide ((f.is.length : Int) ≤ (n : Int)) = true := decide_eq_true hge
  replace kj := hide kj
  replace h := hide h
  clear ha e hout
  generalize f.is.length = L at c11 hge hd
  go_enter Tryd.func37, Tryd.ntmps37
  go_upto_region 1 with (refine wpl_alk rfl rfl ?_; intro w1 g1 k1 z1; replace g1 := hide g1; replace k1 := hide k1; replace z1 := hide z1)
  try simp only [Act.put, List.setIfInBounds_toArray, List.set_cons_zero, List.set_cons_succ]
  have d16 := (unhide g1).cell c16
  have da := (unhide g1).cell ca
  have j1 := hide ((unhide kj).g (unhide g1))
  clear c16 ca
  go_upto_region 2 with (first
    | (refine wpl_ldk rfl (.tmp 16) rfl (P n) k rfl (unhide j1) ?_)
    | (refine wpl_alk rfl rfl ?_; intro w2 g2 k2 z2; replace g2 := hide g2; replace k2 := hide k2; replace z2 := hide z2)
    | (refine wpl_stk rfl (.tmp 5) (.tmp 17) rfl w1.heap.size Kn.zero k rfl rfl (unhide k2) (unhide j1).ok ?_; intro w3 k3 t3 z3; replace k3 := hide k3; replace t3 := hide t3; replace z3 := hide z3))
  try simp only [Act.put, List.setIfInBounds_toArray, List.set_cons_zero, List.set_cons_succ]
  have g13 : G w1 w3 := new_g (unhide g2) (unhide t3)
  have e11 := g13.cell ((unhide g1).cell c11)
  have kk := hide ((unhide k1).g g13)
  have gg : Hid (G w w3) := hide ((unhide g1).trans g13)
  clear d16 da j1 c11 g2 k2 z2 t3 z3 g13 kj
  go_wp2_with (first
    | (refine wpl_ldk rfl (.tmp 5) rfl w1.heap.size k rfl (unhide k3) ?_)
    | (refine wpl_stk rfl (.tmp 4) (.tmp 26) rfl w.heap.size Kn.zero k rfl rfl (unhide kk) (unhide k3).ok ?_; intro w4 k4 t4 z4; replace k4 := hide k4; replace t4 := hide t4; replace z4 := hide z4))
  refine bodyPost_ret (res_known rfl _ _ _ _ rfl (unhide k4)) rfl ?_
  exact ⟨rfl, new_g (unhide gg) (unhide t4)⟩
end Go.Proofs.YtiangegoglfpeaaDoor
