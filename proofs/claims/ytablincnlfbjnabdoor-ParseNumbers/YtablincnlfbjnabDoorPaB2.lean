/- The program's parser: a node whose kids are read behind it; fn. -/
import Derived.Test.YtablincnlfbjnabDoorPaB1
namespace Go.Proofs.YtablincnlfbjnabDoor
set_option maxRecDepth 100000
open Go.RowKit Go.Maps Go.ChangeShapes Go.WideShapes Go.ChangeAt Go.Deep

section
variable {rb wb wc : Nat} {ws : List Wd} {R : Nt → PS → Tt × PS} {M : Nat} {s s1 : PS} {y w : World}
/-- The end of a call whose node lies in a box of its own and is given its kids. -/
theorem kid_fin {m : Nat} {k x k0 x0 : List UInt8} {a a0 : Int} {kv0 v0 kv : Value} {ks : List Tt} (p : Pn rb wb wc ws s1 y w) (b : BoxT y.heap.size k0 x0 a0 v0 w) (bm : BoxT m k x a kv0 w) (hm : y.heap.size < m) (ho : OwK w (m + 1) kv ks) :
    ∃ ao n c, kv = .slice ao n c ∧ (∃ u, w.cell? ⟨m, 3, none⟩ = some u) ∧ w.frozen? ⟨m, 3, none⟩ = false ∧ ((w.setCell ⟨m, 3, none⟩ kv).cell? ⟨m, 0, none⟩ = some (.string ⟨k.toArray⟩) ∧ (w.setCell ⟨m, 3, none⟩ kv).cell? ⟨m, 1, none⟩ = some (.string ⟨x.toArray⟩) ∧ (w.setCell ⟨m, 3, none⟩ kv).cell? ⟨m, 2, none⟩ = some (.int .i64 a) ∧ (w.setCell ⟨m, 3, none⟩ kv).cell? ⟨m, 3, none⟩ = some kv) ∧
    (∃ u0 u1 u2 u3, (w.setCell ⟨m, 3, none⟩ kv).cell? ⟨y.heap.size, 0, none⟩ = some u0 ∧ (w.setCell ⟨m, 3, none⟩ kv).cell? ⟨y.heap.size, 1, none⟩ = some u1 ∧ (w.setCell ⟨m, 3, none⟩ kv).cell? ⟨y.heap.size, 2, none⟩ = some u2 ∧ (w.setCell ⟨m, 3, none⟩ kv).cell? ⟨y.heap.size, 3, none⟩ = some u3) ∧ ((w.setCell ⟨m, 3, none⟩ kv).frozen? ⟨y.heap.size, 0, none⟩ = false ∧ (w.setCell ⟨m, 3, none⟩ kv).frozen? ⟨y.heap.size, 1, none⟩ = false ∧ (w.setCell ⟨m, 3, none⟩ kv).frozen? ⟨y.heap.size, 2, none⟩ = false ∧ (w.setCell ⟨m, 3, none⟩ kv).frozen? ⟨y.heap.size, 3, none⟩ = false) ∧
    Hid (NTo rb wb wc ws (.mk k x a ks, s1) y (.returned (.agg (ndT k x a kv))) (put4 (w.setCell ⟨m, 3, none⟩ kv) y.heap.size k x a kv) ∧ ((put4 (w.setCell ⟨m, 3, none⟩ kv) y.heap.size k x a kv).cell? ⟨y.heap.size, 0, none⟩ = some (.string ⟨k.toArray⟩) ∧ (put4 (w.setCell ⟨m, 3, none⟩ kv) y.heap.size k x a kv).cell? ⟨y.heap.size, 1, none⟩ = some (.string ⟨x.toArray⟩) ∧ (put4 (w.setCell ⟨m, 3, none⟩ kv) y.heap.size k x a kv).cell? ⟨y.heap.size, 2, none⟩ = some (.int .i64 a) ∧ (put4 (w.setCell ⟨m, 3, none⟩ kv) y.heap.size k x a kv).cell? ⟨y.heap.size, 3, none⟩ = some kv)) := by
  have g := gt_set m 3 kv w
  obtain ⟨q1, q2, q3⟩ := fin_any (r := (.mk k x a ks, s1)) (p.own g (fun q (e : q = m) => by omega)) (b.keep g (by show ¬ y.heap.size = m; omega)) (OwA.mono (OwA.gs ho g (fun q (e : m + 1 ≤ q) => by show ¬ q = m; omega)) (by omega))
  obtain ⟨ao, c, e⟩ := ho.sl
  exact ⟨ao, _, c, e, ⟨_, bm.c.2.2.2⟩, bm.f 3, (bm.set3 kv).c, q1, q2, q3⟩
/-- Behind a row whose first word was there. -/
theorem Lv.after (h : Lv rb wb wc ws R M) {t : List UInt8} (kd : List UInt8) (fs : List Fd) (ks : List Tt) (hk : s.k < ws.length) (hm : mu ws s < M + 1) (hx : (wdAt ws s).x = t) (ht : t ≠ []) : mu ws (pRow ws R kd (.word t :: fs) ks s).2 < M ∧ (pRow ws R kd (.word t :: fs) ks s).2.k < ws.length := by
  have hmore := x_more h.w hk ht hx
  have e : (fdStep ws R (.word t) (([], ks), s)).2 = pPass ws s := by
    show pNeed ws t s = _
    unfold pNeed
    rw [if_pos (show pIs ws t s = true from decide_eq_true hx)]
  have hon := pass_on hmore
  have hle := pass_le (ws := ws) hk
  have h2 := run_le h.le fs (fdStep ws R (.word t) (([], ks), s)) (by rw [e]; exact hle.l)
  have h3 := h2.k
  rw [e] at h3
  exact ⟨by show mu ws (fdRun ws R fs (fdStep ws R (.word t) (([], ks), s))).2 < M; unfold mu at hm ⊢; omega, h2.l⟩
end
theorem rc_fn : RowC (⟨#[102, 117, 110, 99, 32, 40]⟩ : ByteArray) [.word [102, 117, 110, 99], .word [40]] := ⟨by decide +kernel, by decide +kernel, by decide +kernel, by decide +kernel, by decide +kernel⟩
set_option maxHeartbeats 8000000 in
theorem fn_ok {rb wb wc : Nat} {ws : List Wd} {R : Nt → PS → Tt × PS} {M : Nat} (L : Lv rb wb wc ws R M) (s : PS) (hs : mu ws s < M + 1) (hx : (wdAt ws s).x = [102, 117, 110, 99]) : Ok rb wb wc ws 74 (fnP ws R) s := by
  refine ok_of fun hk y h => ?_
  have CR : Hid (∀ w1, RSt rb wb wc ws s w1 → Calls Tryd.prog 13 #[.pointer (some ⟨rb, 0, none⟩), .string ⟨#[102, 110]⟩, .string ⟨#[102, 117, 110, 99, 32, 40]⟩, .slice none 0 0] w1 (NTo rb wb wc ws (pRow ws R [102, 110] [.word [102, 117, 110, 99], .word [40]] [] s) w1)) := hide fun w1 h1 => row_nil h1 [102, 110] rc_fn (L.word [.word [40]] (by simp) hk hs hx (by simp))
  obtain ⟨ha1, ha2⟩ := L.after [102, 110] [.word [40]] [] hk hs hx (by simp)
  unfold fnP
  dsimp only
  generalize pRow ws R [102, 110] [.word [102, 117, 110, 99], .word [40]] [] s = r at *
  obtain ⟨nt, s1⟩ := r
  dsimp only at *
  have hl := list_le (ws := ws) (L.le .type) ha2
  have hlen := pList_len (ws := ws) (P := R .type) s1
  have hn20 := h.w.len
  have CL : Hid (∀ w1, RSt rb wb wc ws s1 w1 → Calls Tryd.prog 30 #[.pointer (some ⟨rb, 0, none⟩), .func (.func 48) #[.pointer (some ⟨rb, 0, none⟩)] #[]] w1 (LTo rb wb wc ws (pList ws (R .type) s1) w1)) := hide fun w1 h1 => list_any h1 _ _ (ntF_ent .type) (fun s' hs' => L.ok .type s' (by unfold mu at *; omega)) (fun s' hs' => (L.le .type s' hs').k)
  generalize pList ws (R .type) s1 = l at *
  obtain ⟨ts, s2⟩ := l
  dsimp only at *
  have hn2 := need_lt L.w hl.l (t := [41]) (by simp)
  have CN : Hid (∀ w1, RSt rb wb wc ws s2 w1 → Calls Tryd.prog 33 #[.pointer (some ⟨rb, 0, none⟩), .string ⟨#[41]⟩] w1 (UTo rb wb wc ws (pNeed ws [41] s2) w1 (.tuple #[]))) := hide fun w1 h1 => need_any h1 [41] (by simp)
  have CT : Hid (∀ w1, RSt rb wb wc ws (pNeed ws [41] s2) w1 → Calls Tryd.prog 49 #[.pointer (some ⟨rb, 0, none⟩)] w1 (NTo rb wb wc ws (R .typeOr (pNeed ws [41] s2)) w1)) := hide fun w1 h1 => L.ok .typeOr _ (by have := hl.k; have := hn2.le.k; unfold mu at *; omega) w1 h1
  generalize pNeed ws [41] s2 = s3 at *
  generalize R .typeOr s3 = q at *
  obtain ⟨rt, s4⟩ := q
  dsimp only at *
  have FIN : Hid (∀ w1 w2 o0 n0 c0, Pn rb wb wc ws s y w1 → BoxT y.heap.size [] [] 0 (.slice none 0 0) w1 → OwK w2 w1.heap.size (.slice o0 n0 c0) nt.ks → RSt rb wb wc ws s1 w2 → Gt rb w1 w2 → RSt rb wb wc ws s1 (w2.alloc (.cells #[.string ⟨nt.k.toArray⟩, .string ⟨nt.x.toArray⟩, .int .i64 nt.a, .slice o0 n0 c0] 27)) ∧ ∀ w3 kl, OwK w3 (w2.alloc (.cells #[.string ⟨nt.k.toArray⟩, .string ⟨nt.x.toArray⟩, .int .i64 nt.a, .slice o0 n0 c0] 27)).heap.size kl ts → RSt rb wb wc ws s2 w3 → Gt rb (w2.alloc (.cells #[.string ⟨nt.k.toArray⟩, .string ⟨nt.x.toArray⟩, .int .i64 nt.a, .slice o0 n0 c0] 27)) w3 → ∀ w4, UTo rb wb wc ws s3 w3 (.tuple #[]) (.returned (.tuple #[])) w4 → ∀ w5 o5 n5 c5, OwK w5 w4.heap.size (.slice o5 n5 c5) rt.ks → RSt rb wb wc ws s4 w5 → Gt rb w4 w5 →
      ∃ vo vn vc w6, (Builtin.append_ #[25, 25] 25 #[.slice (some ⟨w5.heap.size, 0, none⟩) 1 1, kl]).run Tryd.prog (w5.alloc (.cells #[.string ⟨rt.k.toArray⟩, .string ⟨rt.x.toArray⟩, .int .i64 rt.a, .slice o5 n5 c5] 27)) = .ok (.slice vo vn vc) w6 ∧ Pn rb wb wc ws s4 y w6 ∧ BoxT y.heap.size [] [] 0 (.slice none 0 0) w6 ∧ BoxT w2.heap.size nt.k nt.x nt.a (.slice o0 n0 c0) w6 ∧ y.heap.size < w2.heap.size ∧ OwK w6 (w2.heap.size + 1) (.slice vo vn vc) (rt :: ts)) := hide fun w1 w2 o0 n0 c0 p b ho h2 g2 => by
    have ga := G.alloc w2 (.cells #[.string ⟨nt.k.toArray⟩, .string ⟨nt.x.toArray⟩, .int .i64 nt.a, .slice o0 n0 c0] 27)
    refine ⟨h2.g ga, fun w3 kl ho3 h3 g3 w4 h4 w5 o5 n5 c5 ho5 h5 g5 => ?_⟩
    obtain ⟨-, h4, g4⟩ := h4
    have hsz : (w2.alloc (.cells #[.string ⟨nt.k.toArray⟩, .string ⟨nt.x.toArray⟩, .int .i64 nt.a, .slice o0 n0 c0] 27)).heap.size = w2.heap.size + 1 := by rw [World.size_alloc]
    have hrl := p.rl
    have hb := b.lt
    have z2 := g2.size
    have z3 := g3.size
    have z4 := g4.size
    have z5 := g5.size
    rw [hsz] at ho3 z3
    obtain ⟨v', w6, r1, r2, r3⟩ := OwA.pre (OwA.gt (OwA.gt ho3 (by omega) g4) (by omega) g5) (t := rt) (OwA.mono ho5 (by omega)) (by omega) (by omega)
    obtain ⟨vo, vc, rfl⟩ := r2.sl
    have bm : BoxT w2.heap.size nt.k nt.x nt.a (.slice o0 n0 c0) (w2.alloc (.cells #[.string ⟨nt.k.toArray⟩, .string ⟨nt.x.toArray⟩, .int .i64 nt.a, .slice o0 n0 c0] 27)) := BoxT.new w2 _ _ _ _
    have nb : ¬ y.heap.size = rb := by omega
    have nm : ¬ w2.heap.size = rb := by omega
    exact ⟨vo, _, vc, w6, r1, (((((p.to h2 g2).g ga).to h3 g3).to h4 g4).to h5 g5).g r3, (((((b.keep g2 nb).g ga).keep g3 nb).keep g4 nb).keep g5 nb).g r3, (((bm.keep g3 nm).keep g4 nm).keep g5 nm).g r3, by omega, r2⟩
  have p := hide ((Pn.new h).al (.cells zBox 27))
  have b := hide (BoxT.zero y)
  clear h hk hs L hx ha1 ha2 hl hlen hn20 hn2
  go_enter Tryd.func74, Tryd.ntmps74
  go_wp2_with fail
  refine (unhide CR _ (unhide p).st).mono ?_
  rintro e w2 hn
  obtain ⟨o0, n0, c0, rfl, ho, h2, g2⟩ := hn.open
  obtain ⟨h3, F3⟩ := unhide FIN _ w2 o0 n0 c0 (unhide p) (unhide b) ho h2 g2
  replace F3 := hide F3
  replace h3 := hide h3
  clear FIN CR hn ho h2 g2 p b
  go_wp2_with fail
  refine (unhide CL _ (unhide h3)).mono ?_
  rintro e w3 hl
  obtain ⟨kl, rfl, ho3, h4, g3⟩ := hl
  replace F3 := hide (unhide F3 w3 kl ho3 h4 g3)
  replace h4 := hide h4
  clear CL ho3 g3 h3
  go_wp2_with fail
  refine (unhide CN _ (unhide h4)).mono ?_
  rintro e w4 hu
  obtain ⟨rfl, hu2⟩ := hu
  replace F3 := hide (unhide F3 w4 ⟨rfl, hu2⟩)
  have h5 := hide hu2.1
  clear CN hu2 h4
  go_wp2_with fail
  refine (unhide CT _ (unhide h5)).mono ?_
  rintro e w5 hn
  obtain ⟨o5, n5, c5, rfl, ho5, h6, g5⟩ := hn.open
  obtain ⟨vo, vn, vc, w6, hrun, p6, b6, m6, hlt, o6⟩ := unhide F3 w5 o5 n5 c5 ho5 h6 g5
  obtain ⟨ao, n, c, e6, ⟨u, cu⟩, fu, ⟨k0, k1, k2, k3⟩, ⟨u0, u1, u2, u3, q0, q1, q2, q3⟩, ⟨z0, z1, z2, z3⟩, K⟩ := kid_fin p6 b6 m6 hlt o6
  clear F3 CT hn ho5 h6 g5 h5 p6 b6 m6 hlt o6 e6
  go_wp2_with (at_builtin; refine wpl_run rfl (.tmp 15) (.tmp 16) 25 rfl _ _ rfl rfl _ _ hrun ?_; clear hrun)
  obtain ⟨K1, d0, d1, d2, d3⟩ := unhide K
  refine bodyPost_ret (by simp [results, Tryd.results74, go_sem, d0, d1, d2, d3]; try rfl) rfl ?_
  exact K1
end Go.Proofs.YtablincnlfbjnabDoor
