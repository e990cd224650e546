/- The program's parser: params (laid by py/pax.py). -/
import Derived.Test.YtablincnlfbjnabDoorPaB3
namespace Go.Proofs.YtablincnlfbjnabDoor
set_option maxRecDepth 100000
open Go.RowKit Go.Maps Go.ChangeShapes Go.WideShapes Go.ChangeAt Go.Deep

theorem rc_7 : RowC (⟨#[123]⟩ : ByteArray) [.word [123]] := ⟨by decide +kernel, by decide +kernel, by decide +kernel, by decide +kernel, by decide +kernel⟩
theorem kids_any {rb wb wc : Nat} {ws : List Wd} {s : PS} {r : Tt × PS} {l : List Tt × PS} {y w1 w2 : World} {o0 : Option Addr} {n0 c0 : Nat} (p : Pn rb wb wc ws s y w1) (b : BoxT y.heap.size [] [] 0 (.slice none 0 0) w1) (h2 : RSt rb wb wc ws r.2 w2) (g2 : Gt rb w1 w2) :
    RSt rb wb wc ws r.2 (w2.alloc (.cells #[.string ⟨r.1.k.toArray⟩, .string ⟨r.1.x.toArray⟩, .int .i64 r.1.a, .slice o0 n0 c0] 27)) ∧ ∀ w3 kl, OwK w3 (w2.alloc (.cells #[.string ⟨r.1.k.toArray⟩, .string ⟨r.1.x.toArray⟩, .int .i64 r.1.a, .slice o0 n0 c0] 27)).heap.size kl l.1 → RSt rb wb wc ws l.2 w3 → Gt rb (w2.alloc (.cells #[.string ⟨r.1.k.toArray⟩, .string ⟨r.1.x.toArray⟩, .int .i64 r.1.a, .slice o0 n0 c0] 27)) w3 →
      Pn rb wb wc ws l.2 y w3 ∧ BoxT y.heap.size [] [] 0 (.slice none 0 0) w3 ∧ BoxT w2.heap.size r.1.k r.1.x r.1.a (.slice o0 n0 c0) w3 ∧ y.heap.size < w2.heap.size ∧ OwK w3 (w2.heap.size + 1) kl l.1 := by
  have ga := G.alloc w2 (.cells #[.string ⟨r.1.k.toArray⟩, .string ⟨r.1.x.toArray⟩, .int .i64 r.1.a, .slice o0 n0 c0] 27)
  refine ⟨h2.g ga, fun w3 kl ho3 h3 g3 => ?_⟩
  have hsz : (w2.alloc (.cells #[.string ⟨r.1.k.toArray⟩, .string ⟨r.1.x.toArray⟩, .int .i64 r.1.a, .slice o0 n0 c0] 27)).heap.size = w2.heap.size + 1 := by rw [World.size_alloc]
  have hrl := p.rl
  have hb := b.lt
  have z2 := g2.size
  rw [hsz] at ho3
  have bm : BoxT w2.heap.size r.1.k r.1.x r.1.a (.slice o0 n0 c0) (w2.alloc (.cells #[.string ⟨r.1.k.toArray⟩, .string ⟨r.1.x.toArray⟩, .int .i64 r.1.a, .slice o0 n0 c0] 27)) := BoxT.new w2 _ _ _ _
  have nb : ¬ y.heap.size = rb := by omega
  have nm : ¬ w2.heap.size = rb := by omega
  exact ⟨((p.to h2 g2).g ga).to h3 g3, ((b.keep g2 nb).g ga).keep g3 nb, bm.keep g3 nm, by omega, ho3⟩
set_option maxHeartbeats 8000000 in
theorem params_ok {rb wb wc : Nat} {ws : List Wd} {R : Nt → PS → Tt × PS} {M : Nat} (L : Lv rb wb wc ws R M) (s : PS) (hs : mu ws s < M + 1) : Ok rb wb wc ws 47 (paramsP ws R) s := by
  refine ok_of fun hk y h => ?_
  unfold paramsP
  have CR : Hid (∀ w1, RSt rb wb wc ws s w1 → Calls Tryd.prog 13 #[.pointer (some ⟨rb, 0, none⟩), .string ⟨#[112, 97, 114, 97, 109, 115]⟩, .string ⟨#[]⟩, .slice none 0 0] w1 (NTo rb wb wc ws (pRow ws R [112, 97, 114, 97, 109, 115] [] [] s) w1)) := hide fun w1 hh => row_nil hh [112, 97, 114, 97, 109, 115] rc_0 (trivial)
  have hr2 : (pRow ws R [112, 97, 114, 97, 109, 115] [] [] s).2 = s := rfl
  unfold withKids
  dsimp only
  generalize pRow ws R [112, 97, 114, 97, 109, 115] [] [] s = r at *
  have CK : Hid (∀ w1, RSt rb wb wc ws r.2 w1 → Calls Tryd.prog 30 #[.pointer (some ⟨rb, 0, none⟩), .func (.func 59) #[.pointer (some ⟨rb, 0, none⟩)] #[]] w1 (LTo rb wb wc ws (pList ws (paramP ws R) r.2) w1)) := hide fun w1 hh => list_any hh _ _ (ntF_ent .param) (fun s' hs' => param_ok L s' (by rw [hr2] at hs'; unfold mu at *; omega)) (fun s' hs' => (param_lt L.w L.le hs').le.k)
  generalize pList ws (paramP ws R) r.2 = l at *
  have p := hide ((Pn.new h).al (.cells zBox 27))
  have b := hide (BoxT.zero y)
  clear h hk hs L hr2
  go_enter Tryd.func47, Tryd.ntmps47
  go_wp2_with fail
  refine (unhide CR _ (unhide p).st).mono ?_
  rintro e w2 hn
  obtain ⟨o0, n0, c0, rfl, ho, h2, g2⟩ := hn.open
  obtain ⟨h3, F3⟩ := kids_any (o0 := o0) (n0 := n0) (c0 := c0) (l := l) (unhide p) (unhide b) h2 g2
  replace F3 := hide F3
  replace h3 := hide h3
  clear CR hn ho h2 g2 p b
  go_wp2_with fail
  refine (unhide CK _ (unhide h3)).mono ?_
  rintro e w3 hl
  obtain ⟨kl, rfl, ho3, h4, g3⟩ := hl
  obtain ⟨p6, b6, m6, hlt, o6⟩ := unhide F3 w3 kl ho3 h4 g3
  obtain ⟨ao, n, c, rfl, ⟨u, cu⟩, fu, ⟨k0, k1, k2, k3⟩, ⟨u0, u1, u2, u3, q0, q1, q2, q3⟩, ⟨z0, z1, z2, z3⟩, K⟩ := kid_fin p6 b6 m6 hlt o6
  clear F3 CK ho3 h4 g3 h3 p6 b6 m6 hlt o6
  go_wp2_with fail
  obtain ⟨K1, d0, d1, d2, d3⟩ := unhide K
  refine bodyPost_ret (by simp [results, Tryd.results47, go_sem, d0, d1, d2, d3]; try rfl) rfl ?_
  exact K1
set_option maxHeartbeats 8000000 in
theorem blockIt_ok {rb wb wc : Nat} {ws : List Wd} {R : Nt → PS → Tt × PS} {M : Nat} (L : Lv rb wb wc ws R M) (s : PS) (hs : mu ws s < M + 1) : Ok rb wb wc ws 62 (blockItP ws R) s := by
  refine ok_of fun hk y h => ?_
  unfold blockItP
  have CR : Hid (∀ w1, RSt rb wb wc ws s w1 → Calls Tryd.prog 13 #[.pointer (some ⟨rb, 0, none⟩), .string ⟨#[98, 108, 111, 99, 107]⟩, .string ⟨#[123]⟩, .slice none 0 0] w1 (NTo rb wb wc ws (pRow ws R [98, 108, 111, 99, 107] [.word [123]] [] s) w1)) := hide fun w1 hh => row_nil hh [98, 108, 111, 99, 107] rc_7 (⟨trivial, trivial⟩)
  have hlt := row_lt (s := s) L.w L.le [98, 108, 111, 99, 107] (.word [123]) [] (by rfl) [] hk
  unfold withKids
  dsimp only
  generalize pRow ws R [98, 108, 111, 99, 107] [.word [123]] [] s = r at *
  have CK : Hid (∀ w1, RSt rb wb wc ws r.2 w1 → Calls Tryd.prog 34 #[.pointer (some ⟨rb, 0, none⟩), .string ⟨#[125]⟩, .func (.func 75) #[.pointer (some ⟨rb, 0, none⟩)] #[]] w1 (LTo rb wb wc ws (pUntil ws [125] (R .stmt) (ws.length + 1) r.2) w1)) := hide fun w1 hh => until_any hh [125] (by simp) _ _ (ntF_ent .stmt) (fun s' h0' hs' _ => ok_of fun hk' => L.ok .stmt s' (by have := hlt.on h0'; unfold mu at *; omega)) (fun s' hs' => (L.le .stmt s' hs').k) (fun s' hs' e' => (L.ea .stmt s' (by simp) hs').on e')
  generalize pUntil ws [125] (R .stmt) (ws.length + 1) r.2 = l at *
  have p := hide ((Pn.new h).al (.cells zBox 27))
  have b := hide (BoxT.zero y)
  clear h hk hs L hlt
  go_enter Tryd.func62, Tryd.ntmps62
  go_wp2_with fail
  refine (unhide CR _ (unhide p).st).mono ?_
  rintro e w2 hn
  obtain ⟨o0, n0, c0, rfl, ho, h2, g2⟩ := hn.open
  obtain ⟨h3, F3⟩ := kids_any (o0 := o0) (n0 := n0) (c0 := c0) (l := l) (unhide p) (unhide b) h2 g2
  replace F3 := hide F3
  replace h3 := hide h3
  clear CR hn ho h2 g2 p b
  go_wp2_with fail
  refine (unhide CK _ (unhide h3)).mono ?_
  rintro e w3 hl
  obtain ⟨kl, rfl, ho3, h4, g3⟩ := hl
  obtain ⟨p6, b6, m6, hlt, o6⟩ := unhide F3 w3 kl ho3 h4 g3
  obtain ⟨ao, n, c, rfl, ⟨u, cu⟩, fu, ⟨k0, k1, k2, k3⟩, ⟨u0, u1, u2, u3, q0, q1, q2, q3⟩, ⟨z0, z1, z2, z3⟩, K⟩ := kid_fin p6 b6 m6 hlt o6
  clear F3 CK ho3 h4 g3 h3 p6 b6 m6 hlt o6
  go_wp2_with fail
  obtain ⟨K1, d0, d1, d2, d3⟩ := unhide K
  refine bodyPost_ret (by simp [results, Tryd.results62, go_sem, d0, d1, d2, d3]; try rfl) rfl ?_
  exact K1
set_option maxHeartbeats 8000000 in
theorem block_ok {rb wb wc : Nat} {ws : List Wd} {R : Nt → PS → Tt × PS} {M : Nat} (L : Lv rb wb wc ws R M) (s : PS) (hs : mu ws s < M + 1) : Ok rb wb wc ws 50 (blockP ws R) s := by
  refine ok_of fun hk y h => ?_
  have CD : Hid (∀ w1, RSt rb wb wc ws s w1 → Calls Tryd.prog 45 #[.pointer (some ⟨rb, 0, none⟩), .func (.func 62) #[.pointer (some ⟨rb, 0, none⟩)] #[]] w1 (NTo rb wb wc ws (blockP ws R s) w1)) := hide fun w1 hh => deeper_any hh _ _ (fun _ _ => rfl) (blockIt_ok L (pUp s) hs)
  generalize blockP ws R s = pr at *
  have p := hide ((Pn.new h).al (.cells zBox 27))
  have b := hide (BoxT.zero y)
  clear h hk hs L
  go_enter Tryd.func50, Tryd.ntmps50
  go_wp2_with fail
  refine (unhide CD _ (unhide p).st).mono ?_
  rintro e w2 hn
  obtain ⟨ao, n, c, rfl, ⟨u0, u1, u2, u3, q0, q1, q2, q3⟩, ⟨z0, z1, z2, z3⟩, K⟩ := arm_fin (unhide p) (unhide b) hn
  clear hn p b
  go_wp2_with fail
  obtain ⟨K1, d0, d1, d2, d3⟩ := unhide K
  refine bodyPost_ret (by simp [results, Tryd.results50, go_sem, d0, d1, d2, d3]; try rfl) rfl ?_
  exact K1
end Go.Proofs.YtablincnlfbjnabDoor
