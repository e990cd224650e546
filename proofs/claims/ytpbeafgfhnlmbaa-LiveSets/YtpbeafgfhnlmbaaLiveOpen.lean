/- What came in, opened: a module with its room, a function, ints. -/
import Derived.Test.YtpbeafgfhnlmbaaCodeOpen
import Derived.Test.YtpbeafgfhnlmbaaLiveFC
import Derived.SizedLaws
namespace Go.Proofs.Ytpbeafgfhnlmbaa
set_option maxRecDepth 100000
open Go.RowKit Go.Maps Go.ChangeShapes Go.WideShapes Go.ChangeAt Go.Deep

theorem own : ownKnob Try.prog.godebug = none := by kernel_rfl
theorem laidOut : laidOutB Try.prog = true := by kernel_rfl
theorem bytes_func : Try.prog.bytesOf 42 = 104 := by kernel_rfl
section
variable {H : Type} {enc : TypeId × Value → H} {w : World} {base b0 : Nat} {spare : Nat → Bool} {held : Bool} {r : Reach} {v : Value} {d : DataW H} {ps : List MemPlace}
theorem row_cap {t e : TypeId} {fuel : Nat} {ao : Option Addr} {n c : Nat} {x : DataW H × List MemPlace} (ht : Try.prog.underlying t = some (.slice e)) (h : DataW.trod enc Try.prog w base spare held fuel t [.slice ao n c] = some x) : n ≤ c := by
  rcases open_slice ht h with ⟨hcs, _⟩ | ⟨a, len, cap, m, k, D, Pl, hcs, _, hl, _⟩
  · simp at hcs
    omega
  · simp at hcs
    omega
theorem row_weight {t e : TypeId} {fuel : Nat} {ao : Option Addr} {n c : Nat} {x : DataW H × List MemPlace} (ht : Try.prog.underlying t = some (.slice e)) (h : DataW.trod enc Try.prog w base spare held fuel t [.slice ao n c] = some x) (hw : ∀ k ∈ x.1.weights Try.prog t, k ≤ reachBytes) : n * Try.prog.bytesOf e ≤ reachBytes := by
  rcases open_slice ht h with ⟨hcs, _⟩ | ⟨a, len, cap, m, k, D, Pl, hcs, _, hl, _, _, rfl, _⟩
  · simp at hcs
    rw [hcs.2.1, Nat.zero_mul]
    exact Nat.zero_le _
  · simp at hcs
    have := hw ((len + (m - len)) * Try.prog.bytesOf e) (by simp [DataW.weights, ht])
    rw [hcs.2.1]
    exact Nat.le_trans (Nat.mul_le_mul_right _ (Nat.le_add_right _ _)) this
theorem open_modr (hval : Value.okWide Try.prog w r b0 31 v) (hd : DataW.Trod enc Try.prog w base spare held 31 v d ps) (hw : ∀ k ∈ d.weights Try.prog 31, k ≤ reachBytes) :
    ∃ (m : Md) (so : Option Addr) (sc : Nat) (go : Option Addr) (gc : Nat) (co : Option Addr) (cc : Nat) (ao : Option Addr) (ac : Nat) (fo : Option Addr) (fc : Nat), v = agM m so sc go gc co cc ao ac fo fc ∧ ModR w m so sc go gc co cc ao ac fo fc ∧ oMd m ∧ m.fn.length * 104 ≤ reachBytes := by
  obtain ⟨cs, rfl, hsz⟩ := okWide_struct Try.underlying31 hval
  rw [cells_module] at hsz
  obtain ⟨fuel, h⟩ := hd
  obtain ⟨xs, n, hx, hx2, hl0, hlen, hf0⟩ := DataW.trod_struct Try.underlying31 h
  obtain ⟨_, n', hf⟩ := trod_fields Try.underlying31 h
  obtain ⟨y0, t0⟩ := hf 0 _ rfl
  obtain ⟨y1, t1⟩ := hf 1 _ rfl
  obtain ⟨y2, t2⟩ := hf 2 _ rfl
  obtain ⟨y3, t3⟩ := hf 3 _ rfl
  obtain ⟨y5, t5⟩ := hf 5 _ rfl
  have hlen6 : xs.length = 6 := hlen
  obtain ⟨x4, hx4⟩ : ∃ x4, xs[4]? = some x4 := ⟨xs[4], List.getElem?_eq_getElem (by omega)⟩
  have t4 : DataW.trod enc Try.prog w base spare held n 29 ((((Value.agg cs).cells.toList).drop 4).take (Try.prog.cellsOf 29)) = xs[4]? := hf0 4 _ rfl
  rw [hx4] at t4
  have hd : d = .agg (xs.map (·.1)) := congrArg Prod.fst hx2
  have hw4 : ∀ k ∈ x4.1.weights Try.prog 29, k ≤ reachBytes := fun k hk => by
    refine hw k ?_
    rw [hd]
    simp only [DataW.weights, Try.underlying31]
    exact DataW.weights_mem_each (j := 4) (t := 29) (d := x4.1) rfl (by simp [hx4]) k hk
  obtain ⟨l⟩ := cs
  match l, hsz with
  | [x0, x1, x2, x3, x4', x5], _ =>
    simp only [Value.cells, cells_shapes, cells_bools, cells_i64s, cells_cases, cells_funcs, cells_int, List.take, List.drop] at t0 t1 t2 t3 t4 t5
    obtain ⟨so, sn, sc, sl, e0, r0, k0⟩ := open_row (E := elSp) Try.underlying26 cells_shape okSp ⟨0, 0, 0⟩ (fun _ _ _ h => of_shape h) t0
    obtain ⟨go, gn, gc, gl, e1, r1, k1⟩ := open_row (E := elB) Try.underlying27 cells_bool okB false (fun _ _ _ h => of_bool h) t1
    obtain ⟨co, cn, cc, cl, e2, r2, k2⟩ := open_row (E := elI) Try.underlying28 cells_i64 okI 0 (fun _ _ _ h => of_i64 h) t2
    obtain ⟨ao, an, ac, al, e3, r3, k3⟩ := open_row (E := elCa) Try.underlying25 cells_case okCa ⟨0, 0, 0, 0⟩ (fun _ _ _ h => of_case h) t3
    obtain ⟨fo, fn, fc, fl, e4, r4, k4⟩ := open_row (E := elFn) Try.underlying29 cells_func okFn ⟨0, 0, 0, 0, [], [], []⟩ (fun _ _ _ h => of_func h) t4
    obtain ⟨a, e5, w5⟩ := of_int t5
    simp at e0 e1 e2 e3 e4 e5
    subst e0 e1 e2 e3 e4 e5
    have hcap := row_cap Try.underlying25 t3
    have hwt := row_weight Try.underlying29 t4 hw4
    rw [bytes_func] at hwt
    obtain rfl := r0.1
    obtain rfl := r1.1
    obtain rfl := r2.1
    obtain rfl := r3.1
    obtain rfl := r4.1
    exact ⟨⟨sl, gl, cl, al, fl, a⟩, so, sc, go, gc, co, cc, ao, ac, fo, fc, rfl, ⟨r0, r1, r2, r3, r4, hcap⟩, ⟨⟨big_len r0.2.1, k0⟩, ⟨big_len r1.2.1, k1⟩, ⟨big_len r2.2.1, k2⟩, ⟨big_len r3.2.1, k3⟩, ⟨big_len r4.2.1, k4⟩, w5⟩, hwt⟩
theorem open_fn (hval : Value.okWide Try.prog w r b0 42 v) (hd : DataW.Trod enc Try.prog w base spare held 42 v d ps) :
    ∃ (f : Fn) (ko : Option Addr) (kc : Nat) (io : Option Addr) (ic : Nat) (mo : Option Addr) (mc : Nat), v = .agg #[.int .i64 f.p, .int .i64 f.c, .int .i64 f.s, .int .i64 f.r, .slice ko f.ks.length kc, .slice io f.is.length ic, .slice mo f.ms.length mc] ∧ RowAt elB w ko f.ks.length kc f.ks ∧ RowAt elIn w io f.is.length ic f.is ∧ RowAt elU w mo f.ms.length mc f.ms ∧ oFn f := by
  obtain ⟨cs, rfl, hsz⟩ := okWide_struct Try.underlying42 hval
  obtain ⟨fuel, h⟩ := hd
  obtain ⟨l⟩ := cs
  obtain ⟨f, hs, ok⟩ := of_func h
  obtain ⟨ko, kc, io, ic, mo, mc, e, h1, h2, h3⟩ : FnCells w f l := hs
  subst e
  exact ⟨f, ko, kc, io, ic, mo, mc, rfl, h1, h2, h3, ok⟩
theorem open_il (hval : Value.okWide Try.prog w r b0 32 v) (hd : DataW.Trod enc Try.prog w base spare held 32 v d ps) : ∃ ao n c l, v = .slice ao n c ∧ RowAt elI w ao n c l ∧ n ≤ c ∧ ∀ a ∈ l, oI a := by
  obtain ⟨ao, len, cap, rfl⟩ := okWide_slice Try.underlying32 hval
  obtain ⟨fuel, h⟩ := hd
  have h' : DataW.trod enc Try.prog w base spare held fuel 32 [.slice ao len cap] = some (d, ps) := h
  obtain ⟨a, n, c, l, e, hr, hk⟩ := open_row (E := elI) Try.underlying32 cells_int okI 0 (fun _ _ _ h => of_int h) h'
  simp at e
  obtain ⟨rfl, rfl, rfl⟩ := e
  exact ⟨_, _, _, l, rfl, hr, row_cap Try.underlying32 h', hk⟩
end
end Go.Proofs.Ytpbeafgfhnlmbaa
