/- The document's own Arena (package gantlineref4) in memory: classes, things, each with a row of words of its own. -/
import Derived.Test.YtgflkpccddfalaaGreatDoorArenaBase
namespace Go.Proofs.YtgflkpccddfalaaGreatDoor
set_option maxRecDepth 100000
open Go.ChangeShapes Go.WideShapes Go.ChangeAt Go.RowKit

/-- A thing, and where its words lie. -/
structure Mt where
  t : Thg
  wb : Nat
  wc : Nat
/-- The list without the places. -/
def things (l : List Mt) : List Thg := l.map fun m => m.t

/-- Where the Arena lies: its block, its classes' block and room, its things. -/
structure Rd where
  rb : Nat
  cb : Nat
  cc : Nat
  lo : Option Addr
  lc : Nat
def Rd.ptr (r : Rd) : Value := .pointer (some ⟨r.rb, 0, none⟩)

/-- The three cells of a thing. -/
def MtAt (w : World) (b i : Nat) (m : Mt) : Prop :=
  w.cell? ⟨b, i * 3, none⟩ = some (.int .i64 m.t.addr) ∧ w.cell? ⟨b, i * 3 + 1, none⟩ = some (.slice (some ⟨m.wb, 0, none⟩) m.t.ws.length m.wc) ∧ w.cell? ⟨b, i * 3 + 2, none⟩ = some (.bool m.t.mr)

/-- The words of a thing. -/
structure WdAt (w : World) (B : Nat) (m : Mt) : Prop where
  v : ∀ (k : Nat) x, m.t.ws[k]? = some x → w.cell? ⟨m.wb, k, none⟩ = some (.int .i64 x)
  f : ∀ k, w.frozen? ⟨m.wb, k, none⟩ = false
  lo : B ≤ m.wb
  hi : m.wb < w.heap.size
  le : m.t.ws.length ≤ m.wc
  mx : m.wc ≤ maxLen

/-- The document's Arena at r holds the classes cl and the things l; all of it from block B on. -/
structure RefAt (w : World) (B : Nat) (r : Rd) (cl : List Int) (l : List Mt) : Prop where
  c0 : w.cell? ⟨r.rb, 0, none⟩ = some (.slice (some ⟨r.cb, 0, none⟩) cl.length r.cc)
  c1 : w.cell? ⟨r.rb, 1, none⟩ = some (.slice r.lo l.length r.lc)
  f0 : ∀ i, w.frozen? ⟨r.rb, i, none⟩ = false
  cv : ∀ (i : Nat) z, cl[i]? = some z → w.cell? ⟨r.cb, i, none⟩ = some (.int .i64 z)
  cf : ∀ i, w.frozen? ⟨r.cb, i, none⟩ = false
  cle : cl.length ≤ r.cc
  lle : l.length ≤ r.lc
  lmx : r.lc ≤ maxLen
  row : ∀ (i : Nat) m, l[i]? = some m → ∃ b, r.lo = some ⟨b, 0, none⟩ ∧ MtAt w b i m
  lf : ∀ a, r.lo = some a → a = ⟨a.block, 0, none⟩ ∧ B ≤ a.block ∧ a.block < w.heap.size ∧ (∀ i, w.frozen? ⟨a.block, i, none⟩ = false) ∧ a.block ≠ r.rb ∧ a.block ≠ r.cb
  nil : r.lo = none → l = [] ∧ r.lc = 0
  wd : ∀ m, m ∈ l → WdAt w B m ∧ m.wb ≠ r.rb ∧ m.wb ≠ r.cb ∧ ∀ a, r.lo = some a → m.wb ≠ a.block
  ap : l.Pairwise fun x y => x.wb ≠ y.wb
  b0 : B ≤ r.rb
  b1 : B ≤ r.cb
  h0 : r.rb < w.heap.size
  h1 : r.cb < w.heap.size
  ne : r.rb ≠ r.cb

theorem WdAt.kept {w w' : World} {B : Nat} {m : Mt} (h : WdAt w B m) (hb : w'.heap[m.wb]? = w.heap[m.wb]?) (hs : w.heap.size ≤ w'.heap.size) : WdAt w' B m :=
  ⟨fun k x hk => (World.cell?_of_block hb).trans (h.v k x hk), fun k => (World.frozen?_of_block (a := ⟨m.wb, k, none⟩) hb).trans (h.f k), h.lo, Nat.lt_of_lt_of_le h.hi hs, h.le, h.mx⟩

/-- What must not be turned for the document's Arena to stay. -/
def Rd.Keeps (r : Rd) (l : List Mt) (w w' : World) : Prop :=
  w'.heap[r.rb]? = w.heap[r.rb]? ∧ w'.heap[r.cb]? = w.heap[r.cb]? ∧ (∀ a, r.lo = some a → w'.heap[a.block]? = w.heap[a.block]?) ∧ (∀ m, m ∈ l → w'.heap[m.wb]? = w.heap[m.wb]?) ∧ w.heap.size ≤ w'.heap.size

theorem RefAt.kept {w w' : World} {B : Nat} {r : Rd} {cl : List Int} {l : List Mt} (h : RefAt w B r cl l) (k : r.Keeps l w w') : RefAt w' B r cl l := by
  obtain ⟨k0, k1, k2, k3, k4⟩ := k
  refine ⟨(World.cell?_of_block k0).trans h.c0, (World.cell?_of_block k0).trans h.c1, fun i => (World.frozen?_of_block (a := ⟨r.rb, i, none⟩) k0).trans (h.f0 i), fun i z hz => (World.cell?_of_block k1).trans (h.cv i z hz),
    fun i => (World.frozen?_of_block (a := ⟨r.cb, i, none⟩) k1).trans (h.cf i), h.cle, h.lle, h.lmx, ?_, ?_, h.nil, ?_, h.ap, h.b0, h.b1, Nat.lt_of_lt_of_le h.h0 k4, Nat.lt_of_lt_of_le h.h1 k4, h.ne⟩
  · intro i m hm
    obtain ⟨b, e, x0, x1, x2⟩ := h.row i m hm
    have kb : w'.heap[b]? = w.heap[b]? := k2 _ e
    exact ⟨b, e, (World.cell?_of_block kb).trans x0, (World.cell?_of_block kb).trans x1, (World.cell?_of_block kb).trans x2⟩
  · intro a ha
    obtain ⟨y0, y1, y2, y3, y4, y5⟩ := h.lf a ha
    exact ⟨y0, y1, Nat.lt_of_lt_of_le y2 k4, fun i => (World.frozen?_of_block (a := ⟨a.block, i, none⟩) (k2 a ha)).trans (y3 i), y4, y5⟩
  · intro m hm
    obtain ⟨y0, y1⟩ := h.wd m hm
    exact ⟨y0.kept (k3 m hm) k4, y1⟩
theorem RefAt.grown {w w' : World} {B : Nat} {r : Rd} {cl : List Int} {l : List Mt} (h : RefAt w B r cl l) (g : G w w') : RefAt w' B r cl l :=
  h.kept ⟨g.block _ h.h0, g.block _ h.h1, fun a ha => g.block _ (h.lf a ha).2.2.1, fun m hm => g.block _ (h.wd m hm).1.hi, g.size⟩

/-- A call of the document's Arena turns its own blocks alone. -/
structure Rn (w w' : World) (r : Rd) (l : List Mt) : Prop where
  os : w'.os = w.os
  tape : w'.tape = w.tape
  output : w'.output = w.output
  size : w.heap.size ≤ w'.heap.size
  block : ∀ k, k < w.heap.size → k ≠ r.rb → k ≠ r.cb → (∀ a, r.lo = some a → k ≠ a.block) → (∀ m, m ∈ l → k ≠ m.wb) → w'.heap[k]? = w.heap[k]?
theorem Rn.of_G {w w' : World} {r : Rd} {l : List Mt} (h : G w w') : Rn w w' r l := ⟨h.os, h.tape, h.output, h.size, fun k hk _ _ _ _ => h.block k hk⟩

/-- Where the things with an address stand; -1: none. -/
def findI (l : List Thg) (x : Int) : Int := match l.findIdx? (fun t => t.addr == x) with | some i => (i : Int) | none => -1
theorem findI_hit {l : List Thg} {x : Int} {i : Nat} {t : Thg} (hi : l[i]? = some t) (ht : t.addr = x) (hb : ∀ j u, j < i → l[j]? = some u → u.addr ≠ x) : findI l x = i := by
  have : l.findIdx? (fun t => t.addr == x) = some i := by
    rw [List.findIdx?_eq_some_iff_getElem]
    have hlt := (List.getElem?_eq_some_iff.1 hi).1
    refine ⟨hlt, ?_, fun j hj => ?_⟩
    · rw [List.getElem?_eq_getElem hlt] at hi
      rw [Option.some.inj hi]
      simpa using ht
    · have hjl : j < l.length := by omega
      have := hb j _ hj (List.getElem?_eq_getElem hjl)
      simpa using this
  unfold findI
  rw [this]
theorem findI_miss {l : List Thg} {x : Int} (hb : ∀ (j : Nat) u, l[j]? = some u → u.addr ≠ x) : findI l x = -1 := by
  have : l.findIdx? (fun t => t.addr == x) = none := by
    rw [List.findIdx?_eq_none_iff]
    intro t ht
    obtain ⟨j, hj⟩ := List.getElem?_of_mem ht
    simpa using hb j t hj
  unfold findI
  rw [this]
theorem things_get {l : List Mt} {i : Nat} {m : Mt} (h : l[i]? = some m) : (things l)[i]? = some m.t := by simp [things, h]

theorem RefAt.addrs {w : World} {B : Nat} {r : Rd} {cl : List Int} {l : List Mt} (h : RefAt w B r cl l) : ∀ (i : Nat) t, (things l)[i]? = some t → ∃ b, r.lo = some ⟨b, 0, none⟩ ∧ w.cell? ⟨b, i * 3, none⟩ = some (.int .i64 t.addr) := by
  intro i t ht
  unfold things at ht
  rw [List.getElem?_map] at ht
  obtain ⟨m, hm, rfl⟩ := Option.map_eq_some_iff.1 ht
  obtain ⟨b, e, x0, _⟩ := h.row i m hm
  exact ⟨b, e, x0⟩
/-- The thing i with another mark. -/
def markI (l : List Mt) (i : Nat) (b : Bool) : List Mt := l.modify i fun m => { m with t := { m.t with mr := b } }
theorem markI_len (l : List Mt) (i : Nat) (b : Bool) : (markI l i b).length = l.length := by simp [markI]
theorem markI_get (l : List Mt) (i j : Nat) (b : Bool) : (markI l i b)[j]? = (l[j]?).map fun m => if i = j then { m with t := { m.t with mr := b } } else m := by
  unfold markI
  rw [List.getElem?_modify]
  cases l[j]? with
  | none => rfl
  | some m => by_cases e : i = j <;> simp [e]
theorem markI_wb (l : List Mt) (i : Nat) (b : Bool) : ∀ m, m ∈ markI l i b → ∃ m0, m0 ∈ l ∧ m.wb = m0.wb ∧ m.wc = m0.wc ∧ m.t.ws = m0.t.ws := by
  intro m hm
  obtain ⟨j, hj⟩ := List.getElem?_of_mem hm
  rw [markI_get] at hj
  obtain ⟨m0, h0, rfl⟩ := Option.map_eq_some_iff.1 hj
  exact ⟨m0, List.mem_of_getElem? h0, by split <;> rfl, by split <;> rfl, by split <;> rfl⟩

/-- One mark is set. -/
theorem RefAt.setMark {w : World} {B : Nat} {r : Rd} {cl : List Int} {l : List Mt} (h : RefAt w B r cl l) {i g : Nat} (hg : r.lo = some ⟨g, 0, none⟩) (b : Bool) :
    RefAt (w.setCell ⟨g, i * 3 + 2, none⟩ (.bool b)) B r cl (markI l i b) ∧ Rn w (w.setCell ⟨g, i * 3 + 2, none⟩ (.bool b)) r l := by
  obtain ⟨_, y1, y2, y3, y4, y5⟩ := h.lf _ hg
  have o : ∀ k j, k ≠ g → (w.setCell ⟨g, i * 3 + 2, none⟩ (.bool b)).cell? ⟨k, j, none⟩ = w.cell? ⟨k, j, none⟩ := fun k j hk => cell_other _ (Or.inl hk)
  have fz : ∀ a, (w.setCell ⟨g, i * 3 + 2, none⟩ (.bool b)).frozen? a = w.frozen? a := fun a => World.frozen?_setCell _ _ _ _
  refine ⟨⟨(o _ _ (Ne.symm y4)).trans h.c0, by rw [markI_len]; exact (o _ _ (Ne.symm y4)).trans h.c1, fun j => (fz _).trans (h.f0 j), fun j z hz => (o _ _ (Ne.symm y5)).trans (h.cv j z hz), fun j => (fz _).trans (h.cf j), h.cle, by rw [markI_len]; exact h.lle, h.lmx, ?_, ?_, ?_, ?_, ?_, h.b0, h.b1, by rw [World.size_setCell]; exact h.h0, by rw [World.size_setCell]; exact h.h1, h.ne⟩, ?_⟩
  · intro j n hn
    rw [markI_get] at hn
    obtain ⟨n0, h0, rfl⟩ := Option.map_eq_some_iff.1 hn
    obtain ⟨bb, e, x0, x1, x2⟩ := h.row j n0 h0
    have eb : bb = g := by rw [hg] at e; injection e with e; injection e with e; exact e.symm
    subst eb
    refine ⟨bb, e, ?_, ?_, ?_⟩
    · rw [cell_other _ (by omega), x0]; split <;> rfl
    · rw [cell_other _ (by omega), x1]; split <;> rfl
    · by_cases ej : i = j
      · subst ej
        rw [cell_same _ x2, if_pos rfl]
      · rw [cell_other _ (by omega), x2, if_neg ej]
  · intro a ha
    obtain ⟨z0, z1, z2, z3, z4, z5⟩ := h.lf a ha
    exact ⟨z0, z1, by rw [World.size_setCell]; exact z2, fun j => (fz _).trans (z3 j), z4, z5⟩
  · intro hn
    rw [hg] at hn
    cases hn
  · intro n hn
    obtain ⟨m0, hm0, e1, e2, e3⟩ := markI_wb l i b n hn
    obtain ⟨w0, w1, w2, w3⟩ := h.wd m0 hm0
    have hne := w3 _ hg
    refine ⟨⟨fun k x hk => ?_, fun k => by rw [fz, e1]; exact w0.f k, by rw [e1]; exact w0.lo, by rw [e1, World.size_setCell]; exact w0.hi, by rw [e2, e3]; exact w0.le, by rw [e2]; exact w0.mx⟩, by rw [e1]; exact w1, by rw [e1]; exact w2, fun a ha => by rw [e1]; exact w3 a ha⟩
    rw [e1, o _ _ hne]
    exact w0.v k x (by rw [← e3]; exact hk)
  · rw [List.pairwise_iff_getElem]
    intro p q hp hq hpq
    have hp' : p < l.length := by rw [markI_len] at hp; exact hp
    have hq' : q < l.length := by rw [markI_len] at hq; exact hq
    have e1 := markI_get l i p b
    have e2 := markI_get l i q b
    rw [List.getElem?_eq_getElem hp, List.getElem?_eq_getElem hp'] at e1
    rw [List.getElem?_eq_getElem hq, List.getElem?_eq_getElem hq'] at e2
    simp only [Option.map_some, Option.some.injEq] at e1 e2
    have := (List.pairwise_iff_getElem.1 h.ap) p q hp' hq' hpq
    rw [e1, e2]
    split <;> split <;> exact this
  · refine ⟨rfl, rfl, rfl, by rw [World.size_setCell]; exact Nat.le_refl _, fun k hk k0 k1 k2 k3 => ?_⟩
    exact Below.heap_setCell _ _ _ _ (show k ≠ g from k2 ⟨g, 0, none⟩ hg)
end Go.Proofs.YtgflkpccddfalaaGreatDoor
