/- Encode of package code: a module's bytes. -/
import Derived.Test.YtdekhnfncecacaaDoorCodeWlF
import Derived.Lib.SlBytesConst
namespace Go.Proofs.YtdekhnfncecacaaDoor
set_option maxRecDepth 100000
open Go.RowKit Go.Maps Go.ChangeShapes Go.WideShapes Go.ChangeAt Go.Deep

/-- What Encode has made, ahead of the first list. -/
abbrev encW (w : World) (cs : Array Value) : World := ((w.alloc (.cells cs 28)).alloc (.cells #[.int .u8 71, .int .u8 79, .int .u8 76, .int .u8 49] 5 (4, 5))).alloc (.cells #[.slice (some ⟨w.heap.size + 1, 0, none⟩) 4 4] 60)
theorem enc_start (w : World) (cs : Array Value) : WrAt (encW w cs) w.heap.size (w.heap.size + 2) (w.heap.size + 1) 4 fst4 := by
  have s1 : (w.alloc (.cells cs 28)).heap.size = w.heap.size + 1 := World.size_alloc _ _
  have s2 : ((w.alloc (.cells cs 28)).alloc (.cells #[.int .u8 71, .int .u8 79, .int .u8 76, .int .u8 49] 5 (4, 5))).heap.size = w.heap.size + 2 := by rw [World.size_alloc, s1]
  have e1 : (encW w cs).heap[w.heap.size + 1]? = some (.cells #[.int .u8 71, .int .u8 79, .int .u8 76, .int .u8 49] 5 (4, 5)) := by
    refine (Below.heap_alloc _ _ _ (by rw [s2]; omega)).trans ?_
    have := heap_alloc_new (w.alloc (.cells cs 28)) (.cells #[.int .u8 71, .int .u8 79, .int .u8 76, .int .u8 49] 5 (4, 5))
    rw [s1] at this
    exact this
  refine ⟨by simp [go_sem, fst4], by simp [go_sem], ?_, by omega, by omega⟩
  refine Or.inr ⟨rfl, by omega, by simp [go_sem], fun j v hj => ?_⟩
  rw [cell_of_row _ _ j _ _ _ e1]
  simpa [fst4] using hj

set_option maxHeartbeats 1000000 in
theorem encode_any (w : World) (v : Value) (m : Md) (hm : ModAt w v m) (ho : oMd m) (hn : (encM m).length ≤ 20000000) :
    Calls Tryd.prog 7 #[v] w fun e w' => ∃ g cap, e = .returned (.slice (some ⟨g, 0, none⟩) (encM m).length cap) ∧ OwnR w' w.heap.size g cap (encM m) ∧ G w w' := by
  obtain ⟨so, sc, go, gc, co, cc, ao, ac, fo, fc, rfl, r1, r2, r3, r4, r5⟩ := hm
  obtain ⟨o1, o2, o3, o4, o5, o6⟩ := ho
  have hlen : (encM m).length = fst4.length + (eL eSp m.sh).length + (eL eB m.gl).length + (eL eI m.co).length + (eL eCa m.ca).length + (eL eFn m.fn).length + (eI m.main).length := by simp [encM, eMd]; omega
  obtain ⟨W, hW⟩ : ∃ W, W = encW w #[.slice so m.sh.length sc, .slice go m.gl.length gc, .slice co m.co.length cc, .slice ao m.ca.length ac, .slice fo m.fn.length fc, .int .i64 m.main] := ⟨_, rfl⟩
  have hst : WrAt W w.heap.size (w.heap.size + 2) (w.heap.size + 1) 4 fst4 := by rw [hW]; exact enc_start _ _
  have hg : G w W := by rw [hW]; exact (((G.refl w).more _).more _).more _
  have hc1 : W.cell? ⟨w.heap.size, 1, none⟩ = some (.slice go m.gl.length gc) := by rw [hW]; simp [go_sem]
  have hc2 : W.cell? ⟨w.heap.size, 2, none⟩ = some (.slice co m.co.length cc) := by rw [hW]; simp [go_sem]
  have hc3 : W.cell? ⟨w.heap.size, 3, none⟩ = some (.slice ao m.ca.length ac) := by rw [hW]; simp [go_sem]
  have hc4 : W.cell? ⟨w.heap.size, 4, none⟩ = some (.slice fo m.fn.length fc) := by rw [hW]; simp [go_sem]
  have hc5 : W.cell? ⟨w.heap.size, 5, none⟩ = some (.int .i64 m.main) := by rw [hW]; simp [go_sem]
  have hBW := hg.size
  have gz : ∀ W2 bs', WrTo W W2 w.heap.size (w.heap.size + 2) (w.heap.size + 1) bs' → G w W2 := fun W2 bs' k => Below.trans hg (k.bel hBW hst)
  have C1 := wl_shape w W (w.heap.size + 2) (w.heap.size + 1) 4 so m.sh.length sc m.sh fst4 hg hst r1 o1.2 (by omega)
  have C2 := hide (fun W2 (k : WrTo W W2 w.heap.size (w.heap.size + 2) (w.heap.size + 1) (fst4 ++ eL eSp m.sh)) =>
    (⟨k.cell hc1 (by omega) (by omega), wr_next k (fun g1 cap1 k1 => wl_bool w W2 (w.heap.size + 2) g1 cap1 go m.gl.length gc m.gl _ (gz W2 _ k) k1 r2 o2.2 (by rw [List.length_append]; omega)) rfl⟩ : _ ∧ _))
  have C3 := hide (fun W2 (k : WrTo W W2 w.heap.size (w.heap.size + 2) (w.heap.size + 1) (fst4 ++ eL eSp m.sh ++ eL eB m.gl)) =>
    (⟨k.cell hc2 (by omega) (by omega), wr_next k (fun g1 cap1 k1 => wl_int64 w W2 (w.heap.size + 2) g1 cap1 co m.co.length cc m.co _ (gz W2 _ k) k1 r3 o3.2 (by rw [List.length_append, List.length_append]; omega)) rfl⟩ : _ ∧ _))
  have C4 := hide (fun W2 (k : WrTo W W2 w.heap.size (w.heap.size + 2) (w.heap.size + 1) (fst4 ++ eL eSp m.sh ++ eL eB m.gl ++ eL eI m.co)) =>
    (⟨k.cell hc3 (by omega) (by omega), wr_next k (fun g1 cap1 k1 => wl_case w W2 (w.heap.size + 2) g1 cap1 ao m.ca.length ac m.ca _ (gz W2 _ k) k1 r4 o4.2 (by rw [List.length_append, List.length_append, List.length_append]; omega)) rfl⟩ : _ ∧ _))
  have C5 := hide (fun W2 (k : WrTo W W2 w.heap.size (w.heap.size + 2) (w.heap.size + 1) (fst4 ++ eL eSp m.sh ++ eL eB m.gl ++ eL eI m.co ++ eL eCa m.ca)) =>
    (⟨k.cell hc4 (by omega) (by omega), wr_next k (fun g1 cap1 k1 => wl_func w W2 (w.heap.size + 2) g1 cap1 fo m.fn.length fc m.fn _ (gz W2 _ k) k1 r5 o5.2 (by rw [List.length_append, List.length_append, List.length_append, List.length_append]; omega)) rfl⟩ : _ ∧ _))
  have C6 := hide (fun W2 (k : WrTo W W2 w.heap.size (w.heap.size + 2) (w.heap.size + 1) (fst4 ++ eL eSp m.sh ++ eL eB m.gl ++ eL eI m.co ++ eL eCa m.ca ++ eL eFn m.fn)) =>
    (⟨k.cell hc5 (by omega) (by omega), wr_next k (fun g1 cap1 k1 => w_signed W2 w.heap.size (w.heap.size + 2) g1 cap1 m.main _ k1 o6 (by rw [List.length_append, List.length_append, List.length_append, List.length_append, List.length_append]; omega) (gz W2 _ k).size) rfl⟩ : _ ∧ _))
  have FI : Hid (∀ W2, WrTo W W2 w.heap.size (w.heap.size + 2) (w.heap.size + 1) (fst4 ++ eL eSp m.sh ++ eL eB m.gl ++ eL eI m.co ++ eL eCa m.ca ++ eL eFn m.fn ++ eI m.main) → G w W2 ∧ ∃ g cap, W2.cell? ⟨w.heap.size + 2, 0, none⟩ = some (.slice (some ⟨g, 0, none⟩) (encM m).length cap) ∧ OwnR W2 w.heap.size g cap (encM m)) := hide fun W2 k => by
    refine ⟨gz W2 _ k, ?_⟩
    obtain ⟨g1, cap1, k1, k2⟩ := k
    have e : fst4 ++ eL eSp m.sh ++ eL eB m.gl ++ eL eI m.co ++ eL eCa m.ca ++ eL eFn m.fn ++ eI m.main = encM m := by simp [encM, eMd]
    rw [e] at k1
    exact ⟨g1, cap1, k1.c0, k1.own⟩
  rw [hW] at C1 C2 C3 C4 C5 C6 FI
  replace C1 := hide C1
  clear r1 r2 r3 r4 r5 o1 o2 o3 o4 o5 o6 hn hlen hst hg hc1 hc2 hc3 hc4 hc5 hBW gz hW
  have hcv := Lib.run_convert_bytes_const (P := Tryd.prog) (w.alloc (.cells #[.slice so m.sh.length sc, .slice go m.gl.length gc, .slice co m.co.length cc, .slice ao m.ca.length ac, .slice fo m.fn.length fc, .int .i64 m.main] 28)) 31 5 #[.int .u8 71, .int .u8 79, .int .u8 76, .int .u8 49] 4 4 Tryd.underlying31 Tryd.underlying5
  rw [World.size_alloc] at hcv
  go_enter Tryd.func7, Tryd.ntmps7
  go_wp2_with fail
  refine (unhide C1).mono ?_
  rintro e w2 ⟨rfl, F⟩
  obtain ⟨hc, N⟩ := unhide C2 w2 F
  replace N := hide N
  clear F C1 C2
  go_wp2_with fail
  refine (unhide N).mono ?_
  rintro e w3 ⟨rfl, F⟩
  clear N hc
  obtain ⟨hc, N⟩ := unhide C3 w3 F
  replace N := hide N
  clear F C3
  go_wp2_with fail
  refine (unhide N).mono ?_
  rintro e w4 ⟨rfl, F⟩
  clear N hc
  obtain ⟨hc, N⟩ := unhide C4 w4 F
  replace N := hide N
  clear F C4
  go_wp2_with fail
  refine (unhide N).mono ?_
  rintro e w5 ⟨rfl, F⟩
  clear N hc
  obtain ⟨hc, N⟩ := unhide C5 w5 F
  replace N := hide N
  clear F C5
  go_wp2_with fail
  refine (unhide N).mono ?_
  rintro e w6 ⟨rfl, F⟩
  clear N hc
  obtain ⟨hc, N⟩ := unhide C6 w6 F
  replace N := hide N
  clear F C6
  go_wp2_with fail
  refine (unhide N).mono ?_
  rintro e w7 ⟨rfl, F⟩
  clear N hc
  obtain ⟨hG, g, cap, hc, hO⟩ := unhide FI w7 F
  replace hG := hide hG
  replace hO := hide hO
  clear F FI
  go_wp2_with fail
  go_ret
  exact ⟨g, cap, rfl, unhide hO, unhide hG⟩
end Go.Proofs.YtdekhnfncecacaaDoor
