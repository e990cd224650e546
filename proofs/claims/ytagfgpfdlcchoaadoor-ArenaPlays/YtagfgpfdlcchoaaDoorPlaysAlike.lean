/- alike() of package gantlinelaw4 answers true of an arena and the document's own that say the same. -/
import Derived.Test.YtagfgpfdlcchoaaDoorPlaysRel
namespace Go.Proofs.YtagfgpfdlcchoaaDoor
open Go.ChangeShapes Go.WideShapes Go.ChangeAt Go.RowKit Go.Maps

theorem maps_any {a : Ab} {l : List Mt} (g : a.Good) (r : Rel a (things l)) {s : Nat} (h2 : s < a.n) : tkM l s (a.cls s) l.length = a.tkI s ∧ mrM l s (a.cls s) l.length = a.mrI s := by
  by_cases h1 : 1 ≤ s
  · obtain ⟨_, i1, i2⟩ := a.I_at h1 h2
    rw [i1, i2]
    exact maps_at g r h1 h2
  · obtain rfl : s = 0 := by omega
    obtain ⟨_, i1, i2⟩ := a.I_no (s := ((0 : Nat) : Int)) (by omega)
    rw [i1, i2]
    have hn := r.none g.ok (s := 0) (by rw [g.ok.c0]; decide)
    have e : ∀ f : Bool → Bool, mapsT (things l) 0 (a.cls 0) f 0 = 0 := by
      intro f
      refine Nat.eq_of_testBit_eq fun q => ?_
      rw [Bool.eq_iff_iff, mapsT_bit]
      constructor
      · rintro (h | ⟨t, ht, e1, _⟩)
        · exact h
        · exact absurd e1 (hn t ht)
      · exact fun h => Or.inl h
    unfold tkM mrM
    rw [← things_len l, List.take_length]
    exact ⟨e _, e _⟩
theorem clsI_any {a : Ab} (g : a.Good) {s : Nat} (h2 : s < a.n) : a.clsI s = a.cls s := by
  by_cases h1 : 1 ≤ s
  · exact a.clsI_at h1 h2
  · obtain rfl : s = 0 := by omega
    rw [(a.I_no (s := ((0 : Nat) : Int)) (by omega)).1, g.ok.c0]

/-- What a law may ask of both, from a world on. -/
structure Ask (W w : World) (d : Ad) (a : Ab) (r : Rd) (cl : List Int) (l : List Mt) : Prop where
  bn : Bn W w d a r cl l
  rl : Rl a cl l
  ln : l.length ≤ 100000
section
variable {W w : World} {d : Ad} {a : Ab} {r : Rd} {cl : List Int} {l : List Mt}
theorem Ask.gr {w' : World} (h : Ask W w d a r cl l) (g : G w w') : Ask W w' d a r cl l := ⟨h.bn.gr g, h.rl, h.ln⟩
theorem Ask.good (h : Ask W w d a r cl l) : a.Good := h.bn.st.good
theorem ask_cls (h : Hid (Ask W w d a r cl l)) {s : Nat} (hs : s < a.n) : ∀ w1, G w w1 → Calls Tryd.prog 32 #[.pointer (some ⟨d.ab, 0, none⟩), .int .i64 (s : Int)] w1 fun e w2 => e = .returned (.int .i64 (a.cls s)) ∧ G w w2 := by
  intro w1 g
  have := st_cls (hide ((unhide h).gr g).bn.st) (s : Int)
  rw [clsI_any (unhide h).good hs] at this
  exact this.mono fun _ _ hh => ⟨hh.1, g.trans hh.2.2⟩
theorem ask_taken (h : Hid (Ask W w d a r cl l)) (s : Int) : ∀ w1, G w w1 → Calls Tryd.prog 34 #[.pointer (some ⟨d.ab, 0, none⟩), .int .i64 s] w1 fun e w2 => e = .returned (.int .u64 (a.tkI s : Int)) ∧ G w w2 := by
  intro w1 g
  exact (st_taken (hide ((unhide h).gr g).bn.st) s).mono fun _ _ hh => ⟨hh.1, g.trans hh.2.2⟩
theorem ask_marked (h : Hid (Ask W w d a r cl l)) (s : Int) : ∀ w1, G w w1 → Calls Tryd.prog 68 #[.pointer (some ⟨d.ab, 0, none⟩), .int .i64 s] w1 fun e w2 => e = .returned (.int .u64 (a.mrI s : Int)) ∧ G w w2 := by
  intro w1 g
  exact (st_marked (hide ((unhide h).gr g).bn.st) s).mono fun _ _ hh => ⟨hh.1, g.trans hh.2.2⟩
theorem ask_is (h : Hid (Ask W w d a r cl l)) (x : Int) : ∀ w1, G w w1 → Calls Tryd.prog 36 #[.pointer (some ⟨d.ab, 0, none⟩), .int .i64 x] w1 fun e w2 => e = .returned (.bool (a.is x)) ∧ G w w2 := by
  intro w1 g
  exact (st_is (hide ((unhide h).gr g).bn.st) x).mono fun _ _ hh => ⟨hh.1, g.trans hh.2.2⟩
theorem ask_read (h : Hid (Ask W w d a r cl l)) (x i : Int) : ∀ w1, G w w1 → Calls Tryd.prog 31 #[.pointer (some ⟨d.ab, 0, none⟩), .int .i64 x, .int .i64 i] w1 fun e w2 => e = .returned (.tuple #[.int .i64 (a.readV x i), .int .i64 (a.readE x i)]) ∧ G w w2 := by
  intro w1 g
  exact (st_read (hide ((unhide h).gr g).bn.st) x i).mono fun _ _ hh => ⟨hh.1, g.trans hh.2.2⟩
theorem ask_maps (h : Hid (Ask W w d a r cl l)) {s : Nat} (hs : s < a.n) : ∀ w1, G w w1 → Calls Tryd.prog 67 #[.pointer (some ⟨r.rb, 0, none⟩), .int .i64 (s : Int)] w1 fun e w2 => e = .returned (.tuple #[.int .u64 (a.tkI s : Int), .int .u64 (a.mrI s : Int)]) ∧ G w w2 := by
  intro w1 g
  have A := (unhide h).gr g
  refine (rmaps_core w1 _ r cl l s l.length (hide rfl) A.ln (hide A.bn.ref) cl.length (hide rfl) (by rw [A.rl.len]; exact hs) (a.cls s) (hide (A.rl.get hs)) (hide ?_)).mono ?_
  · intro m hm e
    obtain ⟨s', p, k1, k2, k3, k4, _, k6, _⟩ := A.rl.rel.isT m.t (List.mem_map.2 ⟨m, hm, rfl⟩)
    have n1 := A.good.ok.n1
    obtain ⟨_, e1, e2, _⟩ := ga_at (s := s') (p := p) k1 (by omega) k3 (A.good.ok.cr s').2 k4
    rw [← k6] at e1 e2
    obtain rfl : s' = s := by omega
    rw [e2]; omega
  · rintro e w2 ⟨t, m, rfl, H, g2⟩
    obtain ⟨e1, e2⟩ := unhide H
    obtain ⟨q1, q2⟩ := maps_any A.good A.rl.rel hs
    rw [e1, e2, q1, q2]
    exact ⟨rfl, g.trans g2⟩
end

set_option maxHeartbeats 2000000 in
set_option maxRecDepth 100000 in
theorem alike_core {W w : World} {d : Ad} {a : Ab} {r : Rd} {cl : List Int} {l : List Mt} (n m : Nat) (hn : Hid (a.n = n)) (hn5 : n ≤ 512) (hm : Hid (l.length = m)) (hm5 : m ≤ 100000) (h : Hid (Ask W w d a r cl l)) :
    Calls Tryd.prog 44 #[.pointer (some ⟨d.ab, 0, none⟩), .pointer (some ⟨r.rb, 0, none⟩)] w fun e w' => e = .returned (.bool true) ∧ G w w' := by
  have C1 : Hid (∀ w1, G w w1 → w1.cell? ⟨d.ab, 1, none⟩ = some (.slice (some ⟨d.sb, 0, none⟩) n d.cs)) := hide fun w1 g => by rw [← unhide hn]; exact ((unhide h).gr g).bn.st.at_.c1
  have CC0 : Hid (∀ w1, G w w1 → w1.cell? ⟨r.rb, 0, none⟩ = some (.slice (some ⟨r.cb, 0, none⟩) n r.cc)) := hide fun w1 g => by have := ((unhide h).gr g).bn.ref.c0; rw [(unhide h).rl.len, unhide hn] at this; exact this
  have CC1 : Hid (∀ w1, G w w1 → w1.cell? ⟨r.rb, 1, none⟩ = some (.slice r.lo m r.lc)) := hide fun w1 g => by have := ((unhide h).gr g).bn.ref.c1; rw [unhide hm] at this; exact this
  have k0 := unhide CC0 w (G.refl _)
  have hnn : ((n : Int) != (n : Int)) = false := by simp
  have s1 := unhide C1 w (G.refl _)
  go_enter Tryd.func44, Tryd.ntmps44
  go_wp2_with fail
  go_quiet ((go_at_call 54; exact Calls.quiet_of_same (spans_core _ d.ab d.sb n d.cs s1)))
  have g0 : Hid (G w (w.drewN nq)) := hide (G.drewN w nq)
  clear k0 s1
  go_wp2_with fail
  go_loopw [5] (fun i wr => ∃ j : Nat, j ≤ n ∧ i = .int .i64 j ∧ Hid (G w wr)) (fun i _ => n - (intOf i).toNat)
  case atStart => exact ⟨0, Nat.zero_le _, rfl, g0⟩
  case round =>
    obtain ⟨j, hj, rfl, g⟩ := hrel
    clear g0
    have k0 := unhide CC0 _ (unhide g)
    by_cases hjn : j = n
    · subst hjn
      go_wp2_with fail
      go_loopw [8] (fun i wr => ∃ q : Nat, q ≤ m ∧ i = .int .i64 q ∧ Hid (G w wr)) (fun i _ => m - (intOf i).toNat)
      case atStart => exact ⟨0, Nat.zero_le _, rfl, g⟩
      case round =>
        obtain ⟨q, hq, rfl, g⟩ := hrel
        have k1 := unhide CC1 _ (unhide g)
        by_cases hqm : q = m
        · subst hqm
          go_wp2_with fail
          go_ret
          exact ⟨rfl, unhide g⟩
        · have hql : (q : Int) < (m : Int) := by omega
          obtain ⟨mt, hmt⟩ : ∃ x, l[q]? = some x := ⟨l[q]'(by rw [unhide hm]; omega), List.getElem?_eq_getElem _⟩
          obtain ⟨lb, hlb, _⟩ := ((unhide h).gr (unhide g)).bn.ref.row q mt hmt
          have XA : Hid (∀ w1, G w w1 → w1.cell? ⟨lb, q * 3, none⟩ = some (.int .i64 mt.t.addr) ∧ w1.cell? ⟨lb, q * 3 + 1, none⟩ = some (.slice (some ⟨mt.wb, 0, none⟩) mt.t.ws.length mt.wc)) := hide fun w1 g1 => by
            obtain ⟨b, e, x0, x1, _⟩ := ((unhide h).gr g1).bn.ref.row q mt hmt
            obtain rfl : b = lb := by rw [hlb] at e; injection e with e; injection e with e; exact e.symm
            exact ⟨x0, x1⟩
          have XW : Hid (∀ w1, G w w1 → ∀ (k : Nat) v, mt.t.ws[k]? = some v → w1.cell? ⟨mt.wb, k, none⟩ = some (.int .i64 v)) := hide fun w1 g1 => (((unhide h).gr g1).bn.ref.wd mt (List.mem_of_getElem? hmt)).1.v
          have XR : Hid (∀ (k : Nat) v, mt.t.ws[k]? = some v → a.readE mt.t.addr k = 0 ∧ a.readV mt.t.addr k = v) := hide fun k v hk => (unhide h).rl.read (unhide h).good hmt rfl hk
          have XI : Hid (a.is mt.t.addr = true) := hide ((unhide h).rl.rel.mark_at (unhide h).good (List.mem_of_getElem? (things_get hmt)) rfl).1
          have XL : Hid (mt.t.ws.length ≤ maxLen) := hide (by have := (((unhide h).gr (unhide g)).bn.ref.wd mt (List.mem_of_getElem? hmt)).1; exact Nat.le_trans this.le this.mx)
          have XG : Hid (∀ k : Nat, k < mt.t.ws.length → ∃ v, mt.t.ws[k]? = some v) := hide fun k hk => ⟨_, List.getElem?_eq_getElem hk⟩
          rw [hlb] at CC1 k1
          generalize mt.t.addr = ad at XA XR XI
          generalize mt.t.ws = ws at XA XW XR XL XG
          generalize mt.wb = wb at XA XW
          generalize mt.wc = wc at XA
          obtain ⟨nw, hnw⟩ : ∃ x, ws.length = x := ⟨_, rfl⟩
          rw [hnw] at XA XL XG
          have hnw5 : (nw : Int) ≤ 9223372036854775807 := by have := unhide XL; unfold maxLen at this; omega
          have CR := hide (fun (k : Int) w1 g1 => ask_read h ad k w1 g1)
          have CI := hide (fun w1 g1 => ask_is h ad w1 g1)
          rw [unhide XI] at CI
          clear hmt hlb hnw XL XI
          go_wp2_with fail
          go_loopw [9] (fun i wr => ∃ k : Nat, k ≤ nw ∧ i = .int .i64 k ∧ Hid (G w wr)) (fun i _ => nw - (intOf i).toNat)
          case atStart => exact ⟨0, Nat.zero_le _, rfl, g⟩
          case round =>
            obtain ⟨k, hk, rfl, g⟩ := hrel
            have k1 := unhide CC1 _ (unhide g)
            obtain ⟨x0, x1⟩ := unhide XA _ (unhide g)
            by_cases hkn : k = nw
            · subst hkn
              go_wp2_with fail
              go_roundw
              case rel => exact ⟨q + 1, by omega, by go_num, g⟩
              case measure => simp [intOf]; omega
            · have hkl : (k : Int) < (nw : Int) := by omega
              obtain ⟨v, hv⟩ := unhide XG k (by omega)
              obtain ⟨e1, e2⟩ := unhide XR k v hv
              have CRk := hide (unhide CR (k : Int))
              rw [e1, e2] at CRk
              replace hv := hide hv
              have hvv : (v != v) = false := by simp
              clear e1 e2
              go_wp2_with fail
              refine (unhide CRk _ (unhide g)).mono ?_
              rintro e w3 ⟨rfl, g3⟩
              have g3 := hide g3
              have k3 := unhide CC1 _ (unhide g3)
              obtain ⟨y0, y1⟩ := unhide XA _ (unhide g3)
              have y2 := unhide XW _ (unhide g3) k v (unhide hv)
              clear k1 x0 x1
              go_wp2_with fail
              refine (unhide CI _ (unhide g3)).mono ?_
              rintro e w4 ⟨rfl, g4⟩
              have g4 := hide g4
              clear k3 y0 y1 y2
              go_wp2_with fail
              go_roundw
              case rel => exact ⟨k + 1, by omega, by go_num, g4⟩
              case measure => simp [intOf]; omega
    · have hjl : (j : Int) < (n : Int) := by omega
      have hja : j < a.n := by rw [unhide hn]; omega
      have F : Hid (∀ w1, G w w1 → w1.cell? ⟨r.cb, j, none⟩ = some (.int .i64 (a.cls j))) := hide fun w1 g1 => ((unhide h).gr g1).bn.ref.cv j _ ((unhide h).rl.get hja)
      have CM := hide (ask_maps h hja)
      have CL := hide (ask_cls h hja)
      have CT := hide (ask_taken h (j : Int))
      have CK := hide (ask_marked h (j : Int))
      generalize a.cls j = c at F CL
      generalize a.tkI j = t at CM CT
      generalize a.mrI j = mr at CM CK
      have hcc : (c != c) = false := by simp
      have htt : ((t : Int) != (t : Int)) = false := by simp
      have hmm : ((mr : Int) != (mr : Int)) = false := by simp
      clear hja
      go_wp2_with fail
      refine (unhide CM _ (unhide g)).mono ?_
      rintro e w3 ⟨rfl, g3⟩
      clear g k0
      have g := hide g3
      clear g3
      have k0 := unhide CC0 _ (unhide g)
      have v0 := unhide F _ (unhide g)
      go_wp2_with fail
      go_region_with (first
        | (go_at_call 32; refine (unhide CL _ (by first | exact (unhide g).drew | exact unhide g)).mono ?_; rintro e w5 ⟨rfl, g5⟩; clear g; have g := hide g5; clear g5; have k0 := unhide CC0 _ (unhide g); have v0 := unhide F _ (unhide g))
        | (go_at_call 34; refine (unhide CT _ (by first | exact (unhide g).drew | exact unhide g)).mono ?_; rintro e w5 ⟨rfl, g5⟩; clear g; have g := hide g5; clear g5)
        | (go_at_call 68; refine (unhide CK _ (by first | exact (unhide g).drew | exact unhide g)).mono ?_; rintro e w5 ⟨rfl, g5⟩; clear g; have g := hide g5; clear g5))
      all_goals
        go_wp2_with fail
        go_roundw
        case rel => exact ⟨j + 1, by omega, by go_num, hide (by first | exact unhide g | exact (unhide g).drew)⟩
        case measure => simp [intOf]; omega
end Go.Proofs.YtagfgpfdlcchoaaDoor
