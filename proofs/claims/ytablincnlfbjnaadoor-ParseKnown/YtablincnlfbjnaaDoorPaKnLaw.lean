/- ParseKnown of gantlinelaw21: what chapter 21 says of a few texts (closed). -/
import Derived.Test.YtablincnlfbjnaaDoorPaAw
import Derived.Laws.Concat
namespace Go.Proofs.YtablincnlfbjnaaDoor
set_option maxRecDepth 100000
open Go.RowKit Go.Maps Go.ChangeShapes Go.WideShapes Go.ChangeAt Go.Deep

theorem tx_3 : (textP []).2 = (0, 0) ∧ (textP []).1.k = [112, 114, 111, 103, 114, 97, 109] ∧ (textP []).1.ks.length = 0 := by decide +kernel
theorem tx_4 : (textP [102, 117, 110, 99, 32, 102, 40, 41, 32, 123, 32, 103, 111, 32, 120, 59, 32, 125]).2 = (15, 6) := by decide +kernel
theorem tx_5 : (textP [102, 117, 110, 99, 32, 102, 40, 41, 32, 123, 32, 35]).2 = (11, 6) := by decide +kernel
theorem tx_6 : (textP ([102, 117, 110, 99, 32, 102, 40, 41, 32, 123, 32] ++ List.replicate 70 40)).2 = (71, 2) := by decide +kernel
theorem bytes_app (a b : List UInt8) : (⟨a.toArray⟩ : ByteArray) ++ (⟨b.toArray⟩ : ByteArray) = ⟨(a ++ b).toArray⟩ := by
  apply ByteArray.ext
  rw [ByteArray.data_append]
  simp only [List.append_toArray]
theorem bytes_size (a : List UInt8) : (⟨a.toArray⟩ : ByteArray).size = a.length := by simp [ByteArray.size]
set_option maxHeartbeats 4000000 in
theorem walk_ParseKnown (W : World) (hL : laidMetH Tryd.prog laid9 W) : Calls Tryd.prog 3 #[] W fun e w' => e = .returned (.bool true) ∧ G W w' := by
  have hE := ev_of_laid hL
  have hT := sp_of_laid hL
  have AW := hide (awake_any W hE hT)
  have C1 : Hid (∀ w1, G W w1 → Calls Tryd.prog 6 #[.string ⟨#[]⟩] w1 fun e w2 => G w1 w2 ∧ ∃ (x : List UInt8) (at0 : Int) (ao : Option Addr) (c : Nat), e = .returned (.tuple #[.agg #[.string ⟨#[112, 114, 111, 103, 114, 97, 109]⟩, .string ⟨x.toArray⟩, .int .i64 at0, .slice ao 0 c], .int .i64 0, .int .i64 0])) := hide fun w1 g => by
    refine (parse_any ⟨#[]⟩ w1 (by decide) (hE.g g) (hT.g g)).mono ?_
    rintro e w2 ⟨g2, ao, n, c, e1, ho⟩
    rw [show (⟨#[]⟩ : ByteArray).data.toList = [] from rfl] at e1 ho
    obtain ⟨t1, t2, t3⟩ := tx_3
    obtain ⟨ao', c', he⟩ := ho.sl
    rw [t3] at he
    rw [t1, t2, he] at e1
    exact ⟨g2, _, _, ao', c', e1⟩
  have C2 : Hid (∀ w1, G W w1 → Calls Tryd.prog 6 #[.string ⟨#[102, 117, 110, 99, 32, 102, 40, 41, 32, 123, 32, 103, 111, 32, 120, 59, 32, 125]⟩] w1 fun e w2 => G w1 w2 ∧ ∃ (k x : List UInt8) (at0 : Int) (ao : Option Addr) (n c : Nat), e = .returned (.tuple #[.agg #[.string ⟨k.toArray⟩, .string ⟨x.toArray⟩, .int .i64 at0, .slice ao n c], .int .i64 15, .int .i64 6])) := hide fun w1 g => parse_at (by decide) (hE.g g) (hT.g g) rfl tx_4
  have C3 : Hid (∀ w1, G W w1 → Calls Tryd.prog 6 #[.string ⟨#[102, 117, 110, 99, 32, 102, 40, 41, 32, 123, 32, 35]⟩] w1 fun e w2 => G w1 w2 ∧ ∃ (k x : List UInt8) (at0 : Int) (ao : Option Addr) (n c : Nat), e = .returned (.tuple #[.agg #[.string ⟨k.toArray⟩, .string ⟨x.toArray⟩, .int .i64 at0, .slice ao n c], .int .i64 11, .int .i64 6])) := hide fun w1 g => parse_at (by decide) (hE.g g) (hT.g g) rfl tx_5
  have C4 : Hid (∀ w1, G W w1 → Calls Tryd.prog 6 #[.string ((⟨#[102, 117, 110, 99, 32, 102, 40, 41, 32, 123, 32]⟩ : ByteArray) ++ ⟨(List.replicate 70 (40 : UInt8)).toArray⟩)] w1 fun e w2 => G w1 w2 ∧ ∃ (k x : List UInt8) (at0 : Int) (ao : Option Addr) (n c : Nat), e = .returned (.tuple #[.agg #[.string ⟨k.toArray⟩, .string ⟨x.toArray⟩, .int .i64 at0, .slice ao n c], .int .i64 71, .int .i64 2])) := hide fun w1 g => parse_at (by rw [ByteArray.size_append]; decide) (hE.g g) (hT.g g) (by rw [ByteArray.data_append]; simp) tx_6
  clear hE hT hL
  go_enter Tryd.func3, Tryd.ntmps3
  go_wp2_with fail
  refine (unhide AW).mono ?_
  rintro e w1 ⟨rfl, g1⟩
  have D1 := hide (unhide C1 w1 g1)
  clear AW C1
  go_wp2_with fail
  refine (unhide D1).mono ?_
  rintro e w2 ⟨g2, x2, a2, ao2, c2, rfl⟩
  have b2 := hide (BoxT.new w2 [112, 114, 111, 103, 114, 97, 109] x2 a2 (.slice ao2 0 c2))
  have g2' := G.alloc w2 (.cells #[.string ⟨#[112, 114, 111, 103, 114, 97, 109]⟩, .string ⟨x2.toArray⟩, .int .i64 a2, .slice ao2 0 c2] 25)
  have h2 := hide ((g1.trans g2).trans g2')
  have D2 := hide (unhide C2 _ (unhide h2))
  clear D1 C2 g1 g2 g2'
  go_wp2_with fail
  refine (unhide D2).mono ?_
  rintro e w3 ⟨g3, k3, x3, a3, ao3, n3, c3, rfl⟩
  have g3' := g3.more (.cells #[.string ⟨k3.toArray⟩, .string ⟨x3.toArray⟩, .int .i64 a3, .slice ao3 n3 c3] 25)
  have h3 := hide ((unhide h2).trans g3')
  have b3 := hide ((unhide b2).g g3')
  have D3 := hide (unhide C3 _ (unhide h3))
  clear D2 C3 g3 g3' h2 b2
  go_wp2_with fail
  refine (unhide D3).mono ?_
  rintro e w4 ⟨g4, k4, x4, a4, ao4, n4, c4, rfl⟩
  have g4' := g4.more (.cells #[.string ⟨k4.toArray⟩, .string ⟨x4.toArray⟩, .int .i64 a4, .slice ao4 n4 c4] 25)
  have h4 := hide ((unhide h3).trans g4')
  have b4 := hide ((unhide b3).g g4')
  have D4 := hide (unhide C4 _ (unhide h4))
  clear D3 C4 g4 g4' h3 b3
  go_wp2_with fail
  generalize w4.alloc (.cells #[.string ⟨k4.toArray⟩, .string ⟨x4.toArray⟩, .int .i64 a4, .slice ao4 n4 c4] 25) = wz at *
  go_loopw [10, 11] (fun t i wr => wr = wz ∧ ∃ k : Nat, k ≤ 70 ∧ t = .string ⟨(List.replicate k (40 : UInt8)).toArray⟩ ∧ i = .int .i64 (k : Int)) (fun _ i _ => 70 - (intOf i).toNat)
  case atStart => exact ⟨rfl, 0, by omega, rfl, rfl⟩
  case round =>
    obtain ⟨rfl, k, hk, rfl, rfl⟩ := hrel
    by_cases hlt : k < 70
    · have hltz : (k : Int) < 70 := by omega
      have ha1 : ∀ w, (Op.stringOp .add (⟨(List.replicate k (40 : UInt8)).toArray⟩ : ByteArray) ⟨#[40]⟩).run Tryd.prog w = .ok (.string (⟨(List.replicate (k + 1) (40 : UInt8)).toArray⟩ : ByteArray)) w := fun w => by
        rw [run_string_add_sum w _ _ (by rw [bytes_size, List.length_replicate]; show k + 1 ≤ _; omega), List.replicate_succ']
        exact congrArg (fun b => Result.ok (Value.string b) w) (bytes_app _ [40])
      obtain ⟨TY, hTY⟩ : ∃ TY, TY = (⟨(List.replicate (k + 1) (40 : UInt8)).toArray⟩ : ByteArray) := ⟨_, rfl⟩
      rw [← hTY] at ha1
      replace hTY := hide hTY
      generalize (⟨(List.replicate k (40 : UInt8)).toArray⟩ : ByteArray) = TX at *
      clear D4 b4 h4
      go_wp2_with fail
      go_roundw
      case rel => exact ⟨trivial, k + 1, by omega, by rw [unhide hTY], by first | rfl | go_num⟩
      case measure => exact dec_1 hlt
    · obtain rfl : k = 70 := by omega
      have ha1 : ∀ w, (Op.stringOp .add (⟨#[102, 117, 110, 99, 32, 102, 40, 41, 32, 123, 32]⟩ : ByteArray) ⟨(List.replicate 70 (40 : UInt8)).toArray⟩).run Tryd.prog w = .ok (.string ((⟨#[102, 117, 110, 99, 32, 102, 40, 41, 32, 123, 32]⟩ : ByteArray) ++ ⟨(List.replicate 70 (40 : UInt8)).toArray⟩)) w := fun w => run_string_add_sum w _ _ (by rw [bytes_size]; decide)
      generalize (⟨(List.replicate 70 (40 : UInt8)).toArray⟩ : ByteArray) = TX at *
      generalize (⟨#[102, 117, 110, 99, 32, 102, 40, 41, 32, 123, 32]⟩ : ByteArray) ++ TX = TZ at *
      go_wp2_with fail
      refine (unhide D4).mono ?_
      rintro e w5 ⟨g5, k5, x5, a5, ao5, n5, c5, rfl⟩
      have g5' := g5.more (.cells #[.string ⟨k5.toArray⟩, .string ⟨x5.toArray⟩, .int .i64 a5, .slice ao5 n5 c5] 25)
      have h5 := hide ((unhide h4).trans g5')
      obtain ⟨d0, d1, d2, d3⟩ := ((unhide b4).g g5').c
      clear D4 g5 g5' h4 b4 d1 d2
      go_wp2_with fail
      go_ret
      exact ⟨rfl, unhide h5⟩

set_option maxRecDepth 100000 in
theorem lifted_ParseKnown (os : Os) (started : os.Started) (H : Type) (enc : TypeId × Value → H) :
    ReturnsInHanded {} Tryd.checked os 3 .any (fun w args => (Rows.parseKnownSpec.pre enc Tryd.prog Tryd.f3 [] false w args ∧ laidMetH Tryd.prog laid9 w) ∧ sizedMet enc Tryd.prog Tryd.f3 (OpenSpec.ofChange Rows.parseKnownSpec) false w args)
      (Rows.parseKnownSpec.post enc Tryd.prog Tryd.f3 false true false false) := by
  refine returnsInHanded_of_change_and (C := Tryd.checked) (X := fun w _ => laidMetH Tryd.prog laid9 w) (fun _ _ _ hh h => h.of_heap hh) own started (by kernel_rfl) Tryd.func3
    (ChangeSpec.witness_shaped (enc := enc) (C := Tryd.checked) (os := os) (X := fun w _ => laidMetH Tryd.prog laid9 w) false (World.doorLaid Tryd.prog 400 os) #[] 8 rfl (World.shaped_of_RefB (by kernel_rfl) (by kernel_rfl)) (by kernel_rfl) (by kernel_rfl) (by kernel_rfl) (door_met os _)) ?_
  intro W base args ds gs before hval0 hW _ _ hL _
  have hval : ∀ (j : Nat) t v, Tryd.f3.params[j]? = some t → args[j]? = some v → Value.okWide Tryd.prog W .any base t v := hval0
  have hW' := hW
  obtain ⟨p, q, hA0, hV, rfl, hfz, hnd⟩ := hW
  have hA : DataW.TrodAll enc Tryd.prog W 0 (fun _ => true) true Tryd.f3.params.toList args.toList ds p := hA0
  rw [Tryd.params3] at hA hval
  obtain ⟨rfl, rfl, rfl⟩ := trodAll_none hA
  obtain ⟨rfl, rfl⟩ := trodVars_none hV
  clear hA0 hval0
  refine (walk_ParseKnown  W hL ).mono fun e W' ⟨he, hg⟩ => ?_
  subst he
  exact ⟨_, rfl, _, _, _, [], [], [], hW', trodAll_mk1 (shut_bool Tryd.underlying4 _), trodAll_mk0, rfl, hg.frame _, fun h => by cases h⟩

theorem row_ParseKnown : Rows.ParseKnownSaid :=
  OpenClaim.holds_of_wide 3 Tryd.f3 rfl rfl rfl rfl rfl rfl rfl ⟨rfl, rfl, rfl, rfl, rfl⟩ rfl rfl rfl rfl rfl (by kernel_rfl) Tryd.func3 (by kernel_rfl)
    (of_decide_eq_true (by kernel_rfl)) (by unfold Func.isWrapper; first | (rw [if_pos (by decide +kernel)]; kernel_rfl) | (rw [if_neg (by decide +kernel)]; exact ⟨rfl, rfl⟩))
    (fun os started H enc _ => lifted_ParseKnown os started H enc)

/-- THE STATEMENT. -/
theorem card_ParseKnown : Rows.ParseKnownCardSaid :=
  Claim7.holds_tied_plain_at .later [] [.data, .data, .data, .sentinel, .sentinel, .listed, .data] true (true, "70806c1634f55d19f44d90ba1804d07757bd89cef0b34686aecef34f076c68df") true
    row_ParseKnown (fun _ h => by cases h) (by kernel_rfl) (fun _ h => by cases h) parseKnown_row_tie rfl ⟨rfl, rfl⟩ (by kernel_rfl) rfl
    (fun f fn hf hfn => by
      obtain rfl : f = 3 := Option.some.inj ((show Tryd.prog.funcNamed "gantline/gantlinelaw21.ParseKnown" = some 3 by kernel_rfl).symm.trans hf) |>.symm
      obtain rfl : fn = Tryd.f3 := (Option.some.inj (Tryd.func3.symm.trans hfn)).symm
      exact ⟨by kernel_rfl, fun j t ht => by
        rw [Tryd.params3] at ht
        simp at ht⟩)
    (by kernel_rfl)
#print axioms card_ParseKnown
end Go.Proofs.YtablincnlfbjnaaDoor
