/- What the document's own Line answers of a rule of kind 1. What the document's own Line answers of a rule of kind 2. What the document's own Line answers of a rule of kind 3. What the document's own Line answers of any right rule. What the document's own Print answers, of a right set. -/
import Derived.Test.YtiahelekgjdjlaaGreatDoorRuRefText
namespace Go.Proofs.YtiahelekgjdjlaaGreatDoor
open Go.RowKit Go.Shelf
open Dp Gb
attribute [local go_sem] Oper.semAt_some
namespace Ru
theorem kindD_1 (w : World) : (Instr.index 111 (.agg #[.string ⟨#[]⟩, .string ⟨#[100, 114, 111, 112]⟩, .string ⟨#[109, 97, 112]⟩, .string ⟨#[114, 111, 108, 108]⟩]) (.int .i64 1)).run Tryz.prog w = .ok (.string ⟨#[100, 114, 111, 112]⟩) w := by kernel_rfl
set_option maxRecDepth 2000000 in
set_option maxHeartbeats 16000000 in
theorem refLineR_1 (a1 a2 a3 : Option Addr) (n1 c1' n2 c2' n3 c3' : Nat) (mt : List UInt8) (kp : Bool) (x : Rul) (w : World) (h : RawRd w ⟨1, ⟨a1, n1, c1'⟩, ⟨a2, n2, c2'⟩, mt, kp, ⟨a3, n3, c3'⟩⟩ x)
    (hf : formed x = true) :
    Calls Tryz.prog 33 #[.agg #[.int .i64 1, .slice a1 n1 c1', .slice a2 n2 c2', .string (B mt), .bool kp, .slice a3 n3 c3']] w fun e w' => e = .returned (.string (B (joinB 32 (rulLn x)))) ∧ Below w.heap.size w w' := by
  obtain ⟨hm, hl6, hkc⟩ := formed_cases hf
  obtain ⟨ma, mc, e1, _, hmat⟩ := RdM.at h.when
  have e1 : Value.slice a1 n1 c1' = _ := e1
  injection e1 with e1 hq1 e1'
  subst e1 e1'
  have hn1 : n1 = x.when.length := hq1
  clear hq1
  have HMAT := Lib.hid (And.intro hn1 hmat)
  have HOK := Lib.hid (List.all_eq_true.1 hm)
  have hkx : x.kind = 1 := h.kind.symm
  have HTO := Lib.hid h.to
  have HLB := Lib.hid h.labs
  have hn3 : n3 = x.labs.length := es_len (h := ⟨a3, n3, c3'⟩) h.labs
  have hkp : kp = x.keep := h.keep
  have hmt : mt = x.met := h.met
  have HRT : Hid (rulLn x = wDrop :: (x.when.map matLn ++ tailT x)) := by show _ = _; unfold rulLn kindW; rw [hkx]; rfl
  have z1 : n1 ≤ 6 := by rw [hn1]; exact hl6
  obtain ⟨mts, hmts⟩ : ∃ s, B mt = s := ⟨_, rfl⟩
  obtain ⟨X, hX⟩ : ∃ X, w.alloc (.cells #[.int .i64 1, .slice a1 n1 c1', .slice a2 n2 c2', .string mts, .bool kp, .slice a3 n3 c3'] 68) = X := ⟨_, rfl⟩
  have HX : Hid (Below w.heap.size w X ∧ Blk X w.heap.size 68 #[.int .i64 1, .slice a1 n1 c1', .slice a2 n2 c2', .string mts, .bool kp, .slice a3 n3 c3']) := by
    rw [← hX]
    exact ⟨(Below.refl _ w).alloc (Nat.le_refl _) _, Blk.new _ _ _⟩
  have HXE := Lib.hid hX
  have HTL : Hid (tailT x = []) := by show _ = _; unfold tailT; rw [hkx]; rfl
  rw [hmts]
  clear hmts hm hl6 hkc hmat hn1 hn3 hkp hmt hkx h hf hX HTO HLB
  have hix := kindD_1
  go_enter Tryz.func33, Tryz.ntmps33
  go_wp2
  rw [HXE.out]
  obtain ⟨c0, c1, c2, c3, c4, c5⟩ := cells6 HX.out.2
  go_loopw [3, 12] (fun o i wr => ∃ (k : Nat) (t : ByteArray), k ≤ n1 ∧ i = .int .i64 (k : Int) ∧ o = .string t ∧ Hid (t.data.toList = joinB 32 (wDrop :: (x.when.take k).map matLn) ∧ X = wr)) (fun _ i _ => n1 - (intOf i).toNat)
  case atStart => exact ⟨0, _, Nat.zero_le _, rfl, rfl, rfl, rfl⟩
  case round =>
    obtain ⟨k, t, hk, rfl, rfl, HR⟩ := hrel
    obtain rfl := HR.out.2
    have HT := Lib.hid HR.out.1
    have hts : t.size ≤ 600 := by
      rw [size_data HT.out]
      have h1 := joinB_bound 32 66 (wDrop :: (x.when.take k).map matLn) (fun y hy => by
        rcases List.mem_cons.1 hy with rfl | hy
        · decide
        · obtain ⟨m, hm, rfl⟩ := List.mem_map.1 hy
          exact (mat_len (HOK.out m (List.mem_of_mem_take hm))).2.2)
      have h2 : (wDrop :: (x.when.take k).map matLn).length ≤ 7 := by
        rw [List.length_cons, List.length_map, List.length_take]
        omega
      have := Nat.mul_le_mul_right 67 h2
      omega
    clear HR HXE
    by_cases hlt : k < n1
    · obtain ⟨mb, mo, rfl, hmcs⟩ := HMAT.out.2 (by rw [← HMAT.out.1]; omega)
      obtain ⟨mat, hmat⟩ : ∃ r, x.when[k]? = some r := ⟨_, List.getElem?_eq_getElem (by rw [← HMAT.out.1]; exact hlt)⟩
      have up : ∀ (i : Nat) (u : Value), (encM mat)[i]? = some u → X.cell? ⟨mb, mo + k * 3 + i, none⟩ = some u := fun i u h => cell_bl HX.out.1 (hmcs k _ hmat i u h)
      have HSN := Lib.hid (mats_snoc hmat)
      have hml := mat_len (HOK.out mat (List.mem_of_getElem? hmat))
      obtain ⟨mn, mg, mp⟩ := mat
      have u0 : X.cell? ⟨mb, mo + k * 3, none⟩ = some (.string (B mn)) := up 0 _ rfl
      have u1 : X.cell? ⟨mb, mo + k * 3 + 1, none⟩ = some (.bool mg) := up 1 _ rfl
      have u2 : X.cell? ⟨mb, mo + k * 3 + 2, none⟩ = some (.string (B mp)) := up 2 _ rfl
      have l0 : (B mn).size ≤ 24 := by rw [B_size]; exact hml.1
      have l2 : (B mp).size ≤ 40 := by rw [B_size]; exact hml.2.1
      have HND : Hid ((B mn).data.toList = mn ∧ (B mp).data.toList = mp) := ⟨rfl, rfl⟩
      have HJ : Hid (joinB 32 (wDrop :: (x.when.take (k + 1)).map matLn) = joinB 32 (wDrop :: (x.when.take k).map matLn) ++ 32 :: matLn ⟨mn, mg, mp⟩) := by
        show _ = _
        rw [HSN.out, ← List.cons_append, joinB_snoc 32 _ _ (by simp)]
      obtain ⟨ns, hns⟩ : ∃ s, B mn = s := ⟨_, rfl⟩
      obtain ⟨ps, hps⟩ : ∃ s, B mp = s := ⟨_, rfl⟩
      rw [hns] at u0 l0 HND
      rw [hps] at u2 l2 HND
      have ikn : (k : Int) < (n1 : Int) := by omega
      clear hmcs hmat up hml hns hps HMAT HOK HSN HTL HRT
      cases mg with
      | true =>
        go_wp2
        go_roundw
        case rel => exact ⟨k + 1, _, by omega, by go_num, rfl, by rw [HJ.out]; simp [matLn, HT.out, HND.out.1, HND.out.2], trivial⟩
        case measure => simp [intOf]; omega
      | false =>
        go_wp2
        go_roundw
        case rel => exact ⟨k + 1, _, by omega, by go_num, rfl, by rw [HJ.out]; simp [matLn, HT.out, HND.out.1, HND.out.2], trivial⟩
        case measure => simp [intOf]; omega
    · obtain rfl : k = n1 := by omega
      have HT2 : Hid (t.data.toList = joinB 32 (wDrop :: x.when.map matLn)) := by
        show _ = _
        rw [HT.out, List.take_of_length_le (by rw [← HMAT.out.1]; exact Nat.le_refl _)]
      clear HT HMAT HOK
      have HF : Hid (t = B (joinB 32 (rulLn x))) := data_B (by rw [HT2.out, HRT.out, HTL.out, List.append_nil])
      clear HT2 HTL HRT
      go_wp2
      go_ret
      exact ⟨by rw [HF.out]; rfl, HX.out.1⟩
end Ru
end Go.Proofs.YtiahelekgjdjlaaGreatDoor
namespace Go.Proofs.YtiahelekgjdjlaaGreatDoor
open Go.RowKit Go.Shelf
open Dp Gb
attribute [local go_sem] Oper.semAt_some
namespace Ru
theorem kindD_2 (w : World) : (Instr.index 111 (.agg #[.string ⟨#[]⟩, .string ⟨#[100, 114, 111, 112]⟩, .string ⟨#[109, 97, 112]⟩, .string ⟨#[114, 111, 108, 108]⟩]) (.int .i64 2)).run Tryz.prog w = .ok (.string ⟨#[109, 97, 112]⟩) w := by kernel_rfl
set_option maxRecDepth 2000000 in
set_option maxHeartbeats 16000000 in
theorem refLineR_2 (a1 a2 a3 : Option Addr) (n1 c1' n2 c2' n3 c3' : Nat) (mt : List UInt8) (kp : Bool) (x : Rul) (w : World) (h : RawRd w ⟨2, ⟨a1, n1, c1'⟩, ⟨a2, n2, c2'⟩, mt, kp, ⟨a3, n3, c3'⟩⟩ x)
    (hf : formed x = true) :
    Calls Tryz.prog 33 #[.agg #[.int .i64 2, .slice a1 n1 c1', .slice a2 n2 c2', .string (B mt), .bool kp, .slice a3 n3 c3']] w fun e w' => e = .returned (.string (B (joinB 32 (rulLn x)))) ∧ Below w.heap.size w w' := by
  obtain ⟨hm, hl6, hkc⟩ := formed_cases hf
  obtain ⟨ma, mc, e1, _, hmat⟩ := RdM.at h.when
  have e1 : Value.slice a1 n1 c1' = _ := e1
  injection e1 with e1 hq1 e1'
  subst e1 e1'
  have hn1 : n1 = x.when.length := hq1
  clear hq1
  have HMAT := Lib.hid (And.intro hn1 hmat)
  have HOK := Lib.hid (List.all_eq_true.1 hm)
  have hkx : x.kind = 2 := h.kind.symm
  have HTO := Lib.hid h.to
  have HLB := Lib.hid h.labs
  have hn3 : n3 = x.labs.length := es_len (h := ⟨a3, n3, c3'⟩) h.labs
  have hkp : kp = x.keep := h.keep
  have hmt : mt = x.met := h.met
  have HRT : Hid (rulLn x = wMap :: (x.when.map matLn ++ tailT x)) := by show _ = _; unfold rulLn kindW; rw [hkx]; rfl
  have z1 : n1 ≤ 6 := by rw [hn1]; exact hl6
  obtain ⟨mts, hmts⟩ : ∃ s, B mt = s := ⟨_, rfl⟩
  obtain ⟨X, hX⟩ : ∃ X, w.alloc (.cells #[.int .i64 2, .slice a1 n1 c1', .slice a2 n2 c2', .string mts, .bool kp, .slice a3 n3 c3'] 68) = X := ⟨_, rfl⟩
  have HX : Hid (Below w.heap.size w X ∧ Blk X w.heap.size 68 #[.int .i64 2, .slice a1 n1 c1', .slice a2 n2 c2', .string mts, .bool kp, .slice a3 n3 c3']) := by
    rw [← hX]
    exact ⟨(Below.refl _ w).alloc (Nat.le_refl _) _, Blk.new _ _ _⟩
  have HXE := Lib.hid hX
  have HTL : Hid (tailT x = [wArrow, joinB 44 x.to]) := by show _ = _; unfold tailT; rw [hkx]; rfl
  have htg : targets x.to = true := by
    rcases hkc with h1 | h1 | h1
    · exact absurd (hkx.symm.trans h1.1) (by decide)
    · exact h1.2.1
    · exact absurd (hkx.symm.trans h1.1) (by decide)
  have HCM := Lib.hid (refCommas_any (.slice a2 n2 c2') x.to X (HTO.out.below HX.out.1) (by have := (targets_word htg).2.1; omega) (fun y hy => Nat.le_trans (word_len ((targets_word htg).2.2 y hy)) (by decide)))
  have hcz : (B (joinB 44 x.to)).size ≤ 1000 := by
    rw [B_size]
    have h1 := joinB_bound 44 24 x.to (fun y hy => word_len ((targets_word htg).2.2 y hy))
    have h2 := (targets_word htg).2.1
    have := Nat.mul_le_mul_right 25 h2
    omega
  have HCD : Hid ((B (joinB 44 x.to)).data.toList = joinB 44 x.to) := rfl
  obtain ⟨cm, hcm⟩ : ∃ s, B (joinB 44 x.to) = s := ⟨_, rfl⟩
  rw [hcm] at HCM hcz HCD
  rw [hmts]
  clear hcm hmts hm hl6 hkc hmat hn1 hn3 hkp hmt hkx h hf hX HTO HLB htg
  have hix := kindD_2
  go_enter Tryz.func33, Tryz.ntmps33
  go_wp2
  rw [HXE.out]
  obtain ⟨c0, c1, c2, c3, c4, c5⟩ := cells6 HX.out.2
  go_loopw [3, 12] (fun o i wr => ∃ (k : Nat) (t : ByteArray), k ≤ n1 ∧ i = .int .i64 (k : Int) ∧ o = .string t ∧ Hid (t.data.toList = joinB 32 (wMap :: (x.when.take k).map matLn) ∧ X = wr)) (fun _ i _ => n1 - (intOf i).toNat)
  case atStart => exact ⟨0, _, Nat.zero_le _, rfl, rfl, rfl, rfl⟩
  case round =>
    obtain ⟨k, t, hk, rfl, rfl, HR⟩ := hrel
    obtain rfl := HR.out.2
    have HT := Lib.hid HR.out.1
    have hts : t.size ≤ 600 := by
      rw [size_data HT.out]
      have h1 := joinB_bound 32 66 (wMap :: (x.when.take k).map matLn) (fun y hy => by
        rcases List.mem_cons.1 hy with rfl | hy
        · decide
        · obtain ⟨m, hm, rfl⟩ := List.mem_map.1 hy
          exact (mat_len (HOK.out m (List.mem_of_mem_take hm))).2.2)
      have h2 : (wMap :: (x.when.take k).map matLn).length ≤ 7 := by
        rw [List.length_cons, List.length_map, List.length_take]
        omega
      have := Nat.mul_le_mul_right 67 h2
      omega
    clear HR HXE
    by_cases hlt : k < n1
    · obtain ⟨mb, mo, rfl, hmcs⟩ := HMAT.out.2 (by rw [← HMAT.out.1]; omega)
      obtain ⟨mat, hmat⟩ : ∃ r, x.when[k]? = some r := ⟨_, List.getElem?_eq_getElem (by rw [← HMAT.out.1]; exact hlt)⟩
      have up : ∀ (i : Nat) (u : Value), (encM mat)[i]? = some u → X.cell? ⟨mb, mo + k * 3 + i, none⟩ = some u := fun i u h => cell_bl HX.out.1 (hmcs k _ hmat i u h)
      have HSN := Lib.hid (mats_snoc hmat)
      have hml := mat_len (HOK.out mat (List.mem_of_getElem? hmat))
      obtain ⟨mn, mg, mp⟩ := mat
      have u0 : X.cell? ⟨mb, mo + k * 3, none⟩ = some (.string (B mn)) := up 0 _ rfl
      have u1 : X.cell? ⟨mb, mo + k * 3 + 1, none⟩ = some (.bool mg) := up 1 _ rfl
      have u2 : X.cell? ⟨mb, mo + k * 3 + 2, none⟩ = some (.string (B mp)) := up 2 _ rfl
      have l0 : (B mn).size ≤ 24 := by rw [B_size]; exact hml.1
      have l2 : (B mp).size ≤ 40 := by rw [B_size]; exact hml.2.1
      have HND : Hid ((B mn).data.toList = mn ∧ (B mp).data.toList = mp) := ⟨rfl, rfl⟩
      have HJ : Hid (joinB 32 (wMap :: (x.when.take (k + 1)).map matLn) = joinB 32 (wMap :: (x.when.take k).map matLn) ++ 32 :: matLn ⟨mn, mg, mp⟩) := by
        show _ = _
        rw [HSN.out, ← List.cons_append, joinB_snoc 32 _ _ (by simp)]
      obtain ⟨ns, hns⟩ : ∃ s, B mn = s := ⟨_, rfl⟩
      obtain ⟨ps, hps⟩ : ∃ s, B mp = s := ⟨_, rfl⟩
      rw [hns] at u0 l0 HND
      rw [hps] at u2 l2 HND
      have ikn : (k : Int) < (n1 : Int) := by omega
      clear hmcs hmat up hml hns hps HMAT HOK HSN HTL HRT
      cases mg with
      | true =>
        go_wp2
        go_roundw
        case rel => exact ⟨k + 1, _, by omega, by go_num, rfl, by rw [HJ.out]; simp [matLn, HT.out, HND.out.1, HND.out.2], trivial⟩
        case measure => simp [intOf]; omega
      | false =>
        go_wp2
        go_roundw
        case rel => exact ⟨k + 1, _, by omega, by go_num, rfl, by rw [HJ.out]; simp [matLn, HT.out, HND.out.1, HND.out.2], trivial⟩
        case measure => simp [intOf]; omega
    · obtain rfl : k = n1 := by omega
      have HT2 : Hid (t.data.toList = joinB 32 (wMap :: x.when.map matLn)) := by
        show _ = _
        rw [HT.out, List.take_of_length_le (by rw [← HMAT.out.1]; exact Nat.le_refl _)]
      clear HT HMAT HOK
      have HF : Hid ((t ++ ⟨#[32, 45, 62, 32]⟩) ++ cm = B (joinB 32 (rulLn x))) := data_B (by
        rw [HRT.out, HTL.out, ← List.cons_append, joinB_app32 _ _ (by simp) (by simp), ← HT2.out]
        simp [joinB, HCD.out, wArrow])
      clear HT2 HTL HRT HCD
      go_wp2_with (go_at_call 69; refine HCM.out.mono ?_; rintro e w1 ⟨rfl, rfl⟩)
      go_ret
      exact ⟨by rw [← HF.out]; rfl, HX.out.1⟩
end Ru
end Go.Proofs.YtiahelekgjdjlaaGreatDoor
namespace Go.Proofs.YtiahelekgjdjlaaGreatDoor
open Go.RowKit Go.Shelf
open Dp Gb
attribute [local go_sem] Oper.semAt_some
namespace Ru
theorem kindD_3 (w : World) : (Instr.index 111 (.agg #[.string ⟨#[]⟩, .string ⟨#[100, 114, 111, 112]⟩, .string ⟨#[109, 97, 112]⟩, .string ⟨#[114, 111, 108, 108]⟩]) (.int .i64 3)).run Tryz.prog w = .ok (.string ⟨#[114, 111, 108, 108]⟩) w := by kernel_rfl
set_option maxRecDepth 2000000 in
set_option maxHeartbeats 16000000 in
theorem refLineR_3 (a1 a2 a3 : Option Addr) (n1 c1' n2 c2' n3 c3' : Nat) (mt : List UInt8) (kp : Bool) (x : Rul) (w : World) (h : RawRd w ⟨3, ⟨a1, n1, c1'⟩, ⟨a2, n2, c2'⟩, mt, kp, ⟨a3, n3, c3'⟩⟩ x)
    (hf : formed x = true) :
    Calls Tryz.prog 33 #[.agg #[.int .i64 3, .slice a1 n1 c1', .slice a2 n2 c2', .string (B mt), .bool kp, .slice a3 n3 c3']] w fun e w' => e = .returned (.string (B (joinB 32 (rulLn x)))) ∧ Below w.heap.size w w' := by
  obtain ⟨hm, hl6, hkc⟩ := formed_cases hf
  obtain ⟨ma, mc, e1, _, hmat⟩ := RdM.at h.when
  have e1 : Value.slice a1 n1 c1' = _ := e1
  injection e1 with e1 hq1 e1'
  subst e1 e1'
  have hn1 : n1 = x.when.length := hq1
  clear hq1
  have HMAT := Lib.hid (And.intro hn1 hmat)
  have HOK := Lib.hid (List.all_eq_true.1 hm)
  have hkx : x.kind = 3 := h.kind.symm
  have HTO := Lib.hid h.to
  have HLB := Lib.hid h.labs
  have hn3 : n3 = x.labs.length := es_len (h := ⟨a3, n3, c3'⟩) h.labs
  have hkp : kp = x.keep := h.keep
  have hmt : mt = x.met := h.met
  have HRT : Hid (rulLn x = wRoll :: (x.when.map matLn ++ tailT x)) := by show _ = _; unfold rulLn kindW; rw [hkx]; rfl
  have z1 : n1 ≤ 6 := by rw [hn1]; exact hl6
  obtain ⟨mts, hmts⟩ : ∃ s, B mt = s := ⟨_, rfl⟩
  obtain ⟨X, hX⟩ : ∃ X, w.alloc (.cells #[.int .i64 3, .slice a1 n1 c1', .slice a2 n2 c2', .string mts, .bool kp, .slice a3 n3 c3'] 68) = X := ⟨_, rfl⟩
  have HX : Hid (Below w.heap.size w X ∧ Blk X w.heap.size 68 #[.int .i64 3, .slice a1 n1 c1', .slice a2 n2 c2', .string mts, .bool kp, .slice a3 n3 c3']) := by
    rw [← hX]
    exact ⟨(Below.refl _ w).alloc (Nat.le_refl _) _, Blk.new _ _ _⟩
  have HXE := Lib.hid hX
  have htg : targets x.to = true ∧ Tg.nameB x.met = true ∧ rising x.labs = true := by
    rcases hkc with h1 | h1 | h1
    · exact absurd (hkx.symm.trans h1.1) (by decide)
    · exact absurd (hkx.symm.trans h1.1) (by decide)
    · exact h1.2
  have HTL : Hid (tailT x = [wArrow, joinB 44 x.to, wAs, mt, if kp then wKeep else wLess, labsT x.labs]) := by show _ = _; unfold tailT; rw [hkx, hmt, hkp]; rfl
  have HCM := Lib.hid (refCommas_any (.slice a2 n2 c2') x.to X (HTO.out.below HX.out.1) (by have := (targets_word htg.1).2.1; omega) (fun y hy => Nat.le_trans (word_len ((targets_word htg.1).2.2 y hy)) (by decide)))
  have HCL := Lib.hid (refCommas_any (.slice a3 n3 c3') x.labs X (HLB.out.below HX.out.1) (by have := (rising_word htg.2.2).1; omega) (fun y hy => Nat.le_trans (word_len ((rising_word htg.2.2).2 y hy)) (by decide)))
  have hcz : (B (joinB 44 x.to)).size ≤ 1000 := by
    rw [B_size]
    have h1 := joinB_bound 44 24 x.to (fun y hy => word_len ((targets_word htg.1).2.2 y hy))
    have h2 := (targets_word htg.1).2.1
    have := Nat.mul_le_mul_right 25 h2
    omega
  have hlz : (B (joinB 44 x.labs)).size ≤ 1000 := by
    rw [B_size]
    have h1 := joinB_bound 44 24 x.labs (fun y hy => word_len ((rising_word htg.2.2).2 y hy))
    have h2 := (rising_word htg.2.2).1
    have := Nat.mul_le_mul_right 25 h2
    omega
  have HLT : Hid (labsT x.labs = if n3 = 0 then wNone else joinB 44 x.labs) := by
    show _ = _
    unfold labsT
    by_cases h0 : n3 = 0
    · rw [if_pos h0, if_pos (List.length_eq_zero_iff.1 (hn3.symm.trans h0))]
    · rw [if_neg h0, if_neg (fun e => h0 (by rw [hn3, e]; rfl))]
  have HL0 : Hid (n3 = 0 → joinB 44 x.labs = []) := fun h0 => by
    rw [List.length_eq_zero_iff.1 (hn3.symm.trans h0)]; rfl
  have hmz : mts.size ≤ 100 := by rw [← hmts, B_size, hmt]; exact Nat.le_trans (name_len htg.2.1) (by decide)
  have HMD : Hid (mts.data.toList = mt) := by show _ = _; rw [← hmts]
  have HCD : Hid ((B (joinB 44 x.to)).data.toList = joinB 44 x.to) := rfl
  have HLD : Hid ((B (joinB 44 x.labs)).data.toList = joinB 44 x.labs) := rfl
  obtain ⟨cm, hcm⟩ : ∃ s, B (joinB 44 x.to) = s := ⟨_, rfl⟩
  obtain ⟨cl, hcl⟩ : ∃ s, B (joinB 44 x.labs) = s := ⟨_, rfl⟩
  rw [hcm] at HCM hcz HCD
  rw [hcl] at HCL hlz HLD
  rw [hmts]
  clear hcm hcl hmts hm hl6 hkc hmat hn1 hn3 hkp hmt hkx h hf hX HTO HLB htg
  have hix := kindD_3
  go_enter Tryz.func33, Tryz.ntmps33
  go_wp2
  rw [HXE.out]
  obtain ⟨c0, c1, c2, c3, c4, c5⟩ := cells6 HX.out.2
  go_loopw [3, 12] (fun o i wr => ∃ (k : Nat) (t : ByteArray), k ≤ n1 ∧ i = .int .i64 (k : Int) ∧ o = .string t ∧ Hid (t.data.toList = joinB 32 (wRoll :: (x.when.take k).map matLn) ∧ X = wr)) (fun _ i _ => n1 - (intOf i).toNat)
  case atStart => exact ⟨0, _, Nat.zero_le _, rfl, rfl, rfl, rfl⟩
  case round =>
    obtain ⟨k, t, hk, rfl, rfl, HR⟩ := hrel
    obtain rfl := HR.out.2
    have HT := Lib.hid HR.out.1
    have hts : t.size ≤ 600 := by
      rw [size_data HT.out]
      have h1 := joinB_bound 32 66 (wRoll :: (x.when.take k).map matLn) (fun y hy => by
        rcases List.mem_cons.1 hy with rfl | hy
        · decide
        · obtain ⟨m, hm, rfl⟩ := List.mem_map.1 hy
          exact (mat_len (HOK.out m (List.mem_of_mem_take hm))).2.2)
      have h2 : (wRoll :: (x.when.take k).map matLn).length ≤ 7 := by
        rw [List.length_cons, List.length_map, List.length_take]
        omega
      have := Nat.mul_le_mul_right 67 h2
      omega
    clear HR HXE
    by_cases hlt : k < n1
    · obtain ⟨mb, mo, rfl, hmcs⟩ := HMAT.out.2 (by rw [← HMAT.out.1]; omega)
      obtain ⟨mat, hmat⟩ : ∃ r, x.when[k]? = some r := ⟨_, List.getElem?_eq_getElem (by rw [← HMAT.out.1]; exact hlt)⟩
      have up : ∀ (i : Nat) (u : Value), (encM mat)[i]? = some u → X.cell? ⟨mb, mo + k * 3 + i, none⟩ = some u := fun i u h => cell_bl HX.out.1 (hmcs k _ hmat i u h)
      have HSN := Lib.hid (mats_snoc hmat)
      have hml := mat_len (HOK.out mat (List.mem_of_getElem? hmat))
      obtain ⟨mn, mg, mp⟩ := mat
      have u0 : X.cell? ⟨mb, mo + k * 3, none⟩ = some (.string (B mn)) := up 0 _ rfl
      have u1 : X.cell? ⟨mb, mo + k * 3 + 1, none⟩ = some (.bool mg) := up 1 _ rfl
      have u2 : X.cell? ⟨mb, mo + k * 3 + 2, none⟩ = some (.string (B mp)) := up 2 _ rfl
      have l0 : (B mn).size ≤ 24 := by rw [B_size]; exact hml.1
      have l2 : (B mp).size ≤ 40 := by rw [B_size]; exact hml.2.1
      have HND : Hid ((B mn).data.toList = mn ∧ (B mp).data.toList = mp) := ⟨rfl, rfl⟩
      have HJ : Hid (joinB 32 (wRoll :: (x.when.take (k + 1)).map matLn) = joinB 32 (wRoll :: (x.when.take k).map matLn) ++ 32 :: matLn ⟨mn, mg, mp⟩) := by
        show _ = _
        rw [HSN.out, ← List.cons_append, joinB_snoc 32 _ _ (by simp)]
      obtain ⟨ns, hns⟩ : ∃ s, B mn = s := ⟨_, rfl⟩
      obtain ⟨ps, hps⟩ : ∃ s, B mp = s := ⟨_, rfl⟩
      rw [hns] at u0 l0 HND
      rw [hps] at u2 l2 HND
      have ikn : (k : Int) < (n1 : Int) := by omega
      clear hmcs hmat up hml hns hps HMAT HOK HSN HTL HRT
      cases mg with
      | true =>
        go_wp2
        go_roundw
        case rel => exact ⟨k + 1, _, by omega, by go_num, rfl, by rw [HJ.out]; simp [matLn, HT.out, HND.out.1, HND.out.2], trivial⟩
        case measure => simp [intOf]; omega
      | false =>
        go_wp2
        go_roundw
        case rel => exact ⟨k + 1, _, by omega, by go_num, rfl, by rw [HJ.out]; simp [matLn, HT.out, HND.out.1, HND.out.2], trivial⟩
        case measure => simp [intOf]; omega
    · obtain rfl : k = n1 := by omega
      have HT2 : Hid (t.data.toList = joinB 32 (wRoll :: x.when.map matLn)) := by
        show _ = _
        rw [HT.out, List.take_of_length_le (by rw [← HMAT.out.1]; exact Nat.le_refl _)]
      clear HT HMAT HOK
      cases kp with
      | true =>
        by_cases z3 : n3 = 0
        · subst z3
          have HF : Hid (((((((t ++ ⟨#[32, 45, 62, 32]⟩) ++ cm) ++ ⟨#[32, 97, 115, 32]⟩) ++ mts) ++ ⟨#[32, 107, 101, 101, 112, 32]⟩) ++ ⟨#[45]⟩) ++ cl = B (joinB 32 (rulLn x))) := data_B (by
            rw [HRT.out, HTL.out, ← List.cons_append, joinB_app32 _ _ (by simp) (by simp), ← HT2.out]
            simp [joinB, HCD.out, HLD.out, HMD.out, HLT.out, HL0.out rfl, wArrow, wAs, wKeep, wNone])
          clear HT2 HTL HRT HCD HLD HMD HLT HL0
          go_wp2_with fail
          refine HCM.out.mono ?_
          rintro e w1 ⟨rfl, rfl⟩
          go_wp2_with fail
          refine HCL.out.mono ?_
          rintro e w2 ⟨rfl, rfl⟩
          go_wp2
          go_ret
          exact ⟨by rw [← HF.out]; rfl, HX.out.1⟩
        · have i3 : ¬ (n3 : Int) = 0 := by omega
          have HF : Hid ((((((t ++ ⟨#[32, 45, 62, 32]⟩) ++ cm) ++ ⟨#[32, 97, 115, 32]⟩) ++ mts) ++ ⟨#[32, 107, 101, 101, 112, 32]⟩) ++ cl = B (joinB 32 (rulLn x))) := data_B (by
            rw [HRT.out, HTL.out, ← List.cons_append, joinB_app32 _ _ (by simp) (by simp), ← HT2.out]
            simp [joinB, HCD.out, HLD.out, HMD.out, HLT.out, z3, wArrow, wAs, wKeep])
          clear HT2 HTL HRT HCD HLD HMD HLT HL0
          go_wp2_with fail
          refine HCM.out.mono ?_
          rintro e w1 ⟨rfl, rfl⟩
          go_wp2_with fail
          refine HCL.out.mono ?_
          rintro e w2 ⟨rfl, rfl⟩
          go_wp2
          go_ret
          exact ⟨by rw [← HF.out]; rfl, HX.out.1⟩
      | false =>
        by_cases z3 : n3 = 0
        · subst z3
          have HF : Hid (((((((t ++ ⟨#[32, 45, 62, 32]⟩) ++ cm) ++ ⟨#[32, 97, 115, 32]⟩) ++ mts) ++ ⟨#[32, 108, 101, 115, 115, 32]⟩) ++ ⟨#[45]⟩) ++ cl = B (joinB 32 (rulLn x))) := data_B (by
            rw [HRT.out, HTL.out, ← List.cons_append, joinB_app32 _ _ (by simp) (by simp), ← HT2.out]
            simp [joinB, HCD.out, HLD.out, HMD.out, HLT.out, HL0.out rfl, wArrow, wAs, wLess, wNone])
          clear HT2 HTL HRT HCD HLD HMD HLT HL0
          go_wp2_with fail
          refine HCM.out.mono ?_
          rintro e w1 ⟨rfl, rfl⟩
          go_wp2_with fail
          refine HCL.out.mono ?_
          rintro e w2 ⟨rfl, rfl⟩
          go_wp2
          go_ret
          exact ⟨by rw [← HF.out]; rfl, HX.out.1⟩
        · have i3 : ¬ (n3 : Int) = 0 := by omega
          have HF : Hid ((((((t ++ ⟨#[32, 45, 62, 32]⟩) ++ cm) ++ ⟨#[32, 97, 115, 32]⟩) ++ mts) ++ ⟨#[32, 108, 101, 115, 115, 32]⟩) ++ cl = B (joinB 32 (rulLn x))) := data_B (by
            rw [HRT.out, HTL.out, ← List.cons_append, joinB_app32 _ _ (by simp) (by simp), ← HT2.out]
            simp [joinB, HCD.out, HLD.out, HMD.out, HLT.out, z3, wArrow, wAs, wLess])
          clear HT2 HTL HRT HCD HLD HMD HLT HL0
          go_wp2_with fail
          refine HCM.out.mono ?_
          rintro e w1 ⟨rfl, rfl⟩
          go_wp2_with fail
          refine HCL.out.mono ?_
          rintro e w2 ⟨rfl, rfl⟩
          go_wp2
          go_ret
          exact ⟨by rw [← HF.out]; rfl, HX.out.1⟩
end Ru
end Go.Proofs.YtiahelekgjdjlaaGreatDoor
namespace Go.Proofs.YtiahelekgjdjlaaGreatDoor
open Go.RowKit Go.Shelf
open Dp Gb
namespace Ru
theorem refLineR_any (kd : Int) (a1 a2 a3 : Option Addr) (n1 c1' n2 c2' n3 c3' : Nat) (mt : List UInt8) (kp : Bool) (x : Rul) (w : World) (h : RawRd w ⟨kd, ⟨a1, n1, c1'⟩, ⟨a2, n2, c2'⟩, mt, kp, ⟨a3, n3, c3'⟩⟩ x) (hf : formed x = true) :
    Calls Tryz.prog 33 #[.agg #[.int .i64 kd, .slice a1 n1 c1', .slice a2 n2 c2', .string (B mt), .bool kp, .slice a3 n3 c3']] w fun e w' => e = .returned (.string (B (joinB 32 (rulLn x)))) ∧ Below w.heap.size w w' := by
  have hk : kd = x.kind := h.kind
  have hc : kd = 1 ∨ kd = 2 ∨ kd = 3 := by
    rw [hk]
    rcases (formed_cases hf).2.2 with h1 | h1 | h1
    · exact .inl h1.1
    · exact .inr (.inl h1.1)
    · exact .inr (.inr h1.1)
  rcases hc with rfl | rfl | rfl
  · exact refLineR_1 a1 a2 a3 n1 c1' n2 c2' n3 c3' mt kp x w h hf
  · exact refLineR_2 a1 a2 a3 n1 c1' n2 c2' n3 c3' mt kp x w h hf
  · exact refLineR_3 a1 a2 a3 n1 c1' n2 c2' n3 c3' mt kp x w h hf
end Ru
end Go.Proofs.YtiahelekgjdjlaaGreatDoor
namespace Go.Proofs.YtiahelekgjdjlaaGreatDoor
open Go.RowKit Go.Shelf
open Dp Gb
attribute [local go_sem] Oper.semAt_some
namespace Ru
theorem refLine_any (p : Pol) (w : World) (hw : Tg.wordB p.name = true) (hr : ranged p = true) :
    Calls Tryz.prog 32 #[.agg #[.string (B p.name), .int .i64 p.size, .int .i64 p.slide, .int .i64 p.late, .int .i64 p.keep]] w fun e w' => e = .returned (.string (B (joinB 32 (polLn p)))) ∧ Below w.heap.size w w' := by
  have hn := word_len hw
  unfold ranged within at hr
  simp only [Bool.and_eq_true, decide_eq_true_eq] at hr
  obtain ⟨n, a, b, c, d⟩ := p
  simp only at hn hr ⊢
  obtain ⟨a, rfl⟩ : ∃ u : Nat, a = u := ⟨a.toNat, by omega⟩
  obtain ⟨b, rfl⟩ : ∃ u : Nat, b = u := ⟨b.toNat, by omega⟩
  obtain ⟨c, rfl⟩ : ∃ u : Nat, c = u := ⟨c.toNat, by omega⟩
  obtain ⟨d, rfl⟩ : ∃ u : Nat, d = u := ⟨d.toNat, by omega⟩
  exact refLine_nat n a b c d w (by omega) (by omega) (by omega) (by omega) (by omega)
/-- how long lines are -/
theorem pol_line_len {p : Pol} (hw : Tg.wordB p.name = true) (hr : ranged p = true) : (joinB 32 (polLn p)).length ≤ 3000 := by
  have hn := word_len hw
  unfold ranged within at hr
  simp only [Bool.and_eq_true, decide_eq_true_eq] at hr
  have hi : ∀ n : Int, 0 ≤ n → n ≤ 1099511627776 → (Lib.itoa n).length ≤ 13 := fun n h0 h1 => by
    rw [itoa_pos h0, Lib.decDigits_length]
    exact nDig_le 12 _ (by have : (10 : Nat) ^ 13 = 10000000000000 := by decide
                           rw [this]; omega)
  have i1 := hi p.size (by omega) (by omega)
  have i2 := hi p.slide (by omega) (by omega)
  have i3 := hi p.late (by omega) (by omega)
  have i4 := hi p.keep (by omega) (by omega)
  have h1 := joinB_bound 32 30 (polLn p) (fun x hx => by
    unfold polLn at hx
    simp only [List.mem_cons, List.not_mem_nil, or_false] at hx
    rcases hx with rfl | rfl | rfl | rfl | rfl | rfl
    · decide
    · omega
    · unfold fldT wSize; simp; omega
    · unfold fldT wSlide; simp; omega
    · unfold fldT wLate; simp; omega
    · unfold fldT wKeep; simp; omega)
  have h2 : (polLn p).length = 6 := rfl
  rw [h2] at h1
  omega
theorem rule_line_len {r : Rul} (h : formed r = true) : (joinB 32 (rulLn r)).length ≤ 3000 := by
  obtain ⟨hm, hl, hk⟩ := formed_cases h
  have hJ : ∀ l : List (List UInt8), l.length ≤ 6 → (∀ x ∈ l, Tg.wordB x = true) → (joinB 44 l).length ≤ 200 := fun l h6 hw => by
    have h1 := joinB_bound 44 24 l (fun y hy => word_len (hw y hy))
    have := Nat.mul_le_mul_right 25 h6
    omega
  have h1 := joinB_bound 32 200 (rulLn r) (fun x hx => by
    unfold rulLn at hx
    rcases List.mem_cons.1 hx with rfl | hx
    · unfold kindW
      split
      · decide
      · split
        · decide
        · split <;> decide
    · rcases List.mem_append.1 hx with hx | hx
      · obtain ⟨m, hmm, rfl⟩ := List.mem_map.1 hx
        have := (mat_len (List.all_eq_true.1 hm m hmm)).2.2
        omega
      · unfold tailT at hx
        obtain ⟨kd, wh, to', mt, kp, lb⟩ := r
        simp only at hk hx
        rcases hk with ⟨rfl, rfl, rfl, rfl, rfl⟩ | ⟨rfl, ht, rfl, rfl, rfl⟩ | ⟨rfl, ht, hn, hr⟩
        · simp at hx
        · simp at hx
          rcases hx with rfl | rfl
          · decide
          · exact hJ _ (by have := (targets_word ht).2.1; omega) (targets_word ht).2.2
        · simp at hx
          rcases hx with rfl | rfl | rfl | rfl | rfl | rfl
          · decide
          · exact hJ _ (by have := (targets_word ht).2.1; omega) (targets_word ht).2.2
          · decide
          · have := name_len hn; omega
          · split <;> decide
          · unfold labsT
            split
            · decide
            · exact hJ _ (rising_word hr).1 (rising_word hr).2)
  have h2 := rule_len h
  have := Nat.mul_le_mul_right 201 h2
  omega
theorem flat_len {α : Type} (f : α → List UInt8) (M : Nat) : ∀ (l : List α), (∀ x ∈ l, (f x).length ≤ M) → ((l.map f).flatten).length ≤ l.length * M
  | [], _ => by simp
  | x :: l, h => by
    have h1 := h x (by simp)
    have ih := flat_len f M l (fun y hy => h y (List.mem_cons_of_mem _ hy))
    rw [List.map_cons, List.flatten_cons, List.length_append, List.length_cons, Nat.add_mul]
    omega
def plF (p : Pol) : List UInt8 := lineT (polLn p)
def rlF (r : Rul) : List UInt8 := lineT (rulLn r)
theorem plF_len {s : RSet} (h : Right s) : ∀ p ∈ s.pols, (plF p).length ≤ 3001 := fun p hp => by
  have := h.pols p hp
  have := pol_line_len this.1 this.2
  unfold plF lineT
  simp
  omega
theorem rlF_len {s : RSet} (h : Right s) : ∀ r ∈ s.rules, (rlF r).length ≤ 3001 := fun r hr => by
  have := rule_line_len (h.rules r hr)
  unfold rlF lineT
  simp
  omega
theorem print_eq (s : RSet) : printP s = (s.pols.map plF).flatten ++ (s.rules.map rlF).flatten := by
  unfold printP linesT
  rw [List.flatten_append]
  rfl
theorem print_len {s : RSet} (h : Right s) : (printP s).length ≤ 70000 := by
  rw [print_eq, List.length_append]
  have h1 := flat_len plF 3001 s.pols (plF_len h)
  have h2 := flat_len rlF 3001 s.rules (rlF_len h)
  have h3 := h.p4
  have h4 := h.r16
  have := Nat.mul_le_mul_right 3001 h3
  have := Nat.mul_le_mul_right 3001 h4
  omega
theorem map_snoc {α : Type} {f : α → List UInt8} {l : List α} {k : Nat} {x : α} (h : l[k]? = some x) : ((l.take (k + 1)).map f).flatten = ((l.take k).map f).flatten ++ f x := by
  obtain ⟨hk, rfl⟩ := List.getElem?_eq_some_iff.1 h
  rw [List.take_succ_eq_append_getElem hk, List.map_append, List.flatten_append, List.map_cons, List.map_nil, List.flatten_cons, List.flatten_nil, List.append_nil]
theorem take_flat {α : Type} {f : α → List UInt8} {M n : Nat} {l : List α} (h : ∀ x ∈ l, (f x).length ≤ M) (hl : l.length ≤ n) (k : Nat) : (((l.take k).map f).flatten).length ≤ n * M := by
  have h1 := flat_len f M (l.take k) (fun x hx => h x (List.mem_of_mem_take hx))
  have h2 : (l.take k).length ≤ n := by rw [List.length_take]; omega
  exact Nat.le_trans h1 (Nat.mul_le_mul_right M h2)
set_option maxRecDepth 2000000 in
set_option maxHeartbeats 16000000 in
theorem refPrint_any (s : RSet) (b1 b2 : Option Addr) (m1 e1 m2 e2 : Nat) (w : World) (hr : Right s) (hP : RdP w (.slice b1 m1 e1) s.pols) (hR : RulesRd w (.slice b2 m2 e2) s.rules) :
    Calls Tryz.prog 14 #[.agg #[.slice b1 m1 e1, .slice b2 m2 e2]] w fun e w' => e = .returned (.string (B (printP s))) ∧ Below w.heap.size w w' := by
  obtain ⟨a, c, f1, hc, hat⟩ := RdP.at hP
  injection f1 with f1 f2 f3
  subst f1 f3
  have hm1 : m1 = s.pols.length := f2
  obtain ⟨raws, hrv, hra⟩ := hR
  obtain ⟨a', c', g1, hc', hrat⟩ := RdR.at hrv
  injection g1 with g1 g2 g3
  subst g1 g3
  have g2' : m2 = raws.length := g2
  have hm2 : m2 = s.rules.length := by rw [g2', hra.1]
  have HL1 : Hid (s.pols.length = m1) := hm1.symm
  have HL2 : Hid (raws.length = m2 ∧ s.rules.length = m2) := ⟨g2'.symm, hm2.symm⟩
  have HPAT := Lib.hid hat
  have HRAT := Lib.hid hrat
  have HRA := Lib.hid hra
  have HRI := Lib.hid hr
  have z1 : m1 ≤ 4 := by rw [hm1]; exact hr.p4
  have z2 : m2 ≤ 16 := by rw [hm2]; exact hr.r16
  have HB1 : Hid (∀ k, (((s.pols.take k).map plF).flatten).length ≤ 4 * 3001) := fun k => take_flat (plF_len hr) hr.p4 k
  have HB2 : Hid (∀ k, (((s.rules.take k).map rlF).flatten).length ≤ 16 * 3001) := fun k => take_flat (rlF_len hr) hr.r16 k
  obtain ⟨X, hX⟩ : ∃ X, w.alloc (.cells #[.slice b1 m1 e1, .slice b2 m2 e2] 35) = X := ⟨_, rfl⟩
  have HX : Hid (Below w.heap.size w X ∧ Blk X w.heap.size 35 #[.slice b1 m1 e1, .slice b2 m2 e2]) := by
    rw [← hX]
    exact ⟨(Below.refl _ w).alloc (Nat.le_refl _) _, Blk.new _ _ _⟩
  have HXE := Lib.hid hX
  clear hP hat hrat hra hrv hc hc' f2 g2 g2' hm1 hm2 hr hX
  go_enter Tryz.func14, Tryz.ntmps14
  go_wp2
  rw [HXE.out]
  go_loopw [3, 9] (fun o i wr => ∃ (k : Nat) (t : ByteArray), k ≤ m1 ∧ i = .int .i64 (k : Int) ∧ o = .string t ∧ Hid (t.data.toList = ((s.pols.take k).map plF).flatten ∧ Below X.heap.size X wr)) (fun _ i _ => m1 - (intOf i).toNat)
  case atStart => exact ⟨0, _, Nat.zero_le _, rfl, rfl, rfl, Below.refl _ _⟩
  case round =>
    obtain ⟨wo, rfl⟩ : ∃ x, x = wr := ⟨_, rfl⟩
    obtain ⟨k, t, hk, rfl, rfl, HR⟩ := hrel
    have HT := Lib.hid HR.out.1
    have HK := Lib.hid HR.out.2
    have hts : t.size ≤ 12004 := by rw [size_data HT.out]; exact HB1.out k
    have HW : Hid (Below w.heap.size w wo) := below_step HX.out.1 (Nat.le_refl _) HK.out
    have HB0 : Hid (Blk wo w.heap.size 35 #[.slice b1 m1 e1, .slice b2 m2 e2]) := HX.out.2.below HK.out HX.out.2.lt
    have r0 := (HB0.out.cl 0 _ rfl).1
    have r1 := (HB0.out.cl 1 _ rfl).1
    clear HR
    by_cases hlt : k < m1
    · obtain ⟨pb, po, rfl, hpcs⟩ := HPAT.out (by rw [HL1.out]; omega)
      obtain ⟨pol, hp⟩ : ∃ p, s.pols[k]? = some p := ⟨_, List.getElem?_eq_getElem (by rw [HL1.out]; exact hlt)⟩
      have up : ∀ (i : Nat) (u : Value), (encP pol)[i]? = some u → wo.cell? ⟨pb, po + k * 5 + i, none⟩ = some u := fun i u h => cell_bl HW.out (hpcs k _ hp i u h)
      have hpr := HRI.out.pols pol (List.mem_of_getElem? hp)
      have HLN := Lib.hid (refLine_any pol wo hpr.1 hpr.2)
      have hlz : (B (joinB 32 (polLn pol))).size ≤ 3000 := by rw [B_size]; exact pol_line_len hpr.1 hpr.2
      have HSN : Hid (((s.pols.take (k + 1)).map plF).flatten = ((s.pols.take k).map plF).flatten ++ (joinB 32 (polLn pol) ++ [10])) := map_snoc hp
      have HLD : Hid ((B (joinB 32 (polLn pol))).data.toList = joinB 32 (polLn pol)) := rfl
      obtain ⟨pn, p1, p2, p3, p4⟩ := pol
      have q0 : wo.cell? ⟨pb, po + k * 5, none⟩ = some (.string (B pn)) := up 0 _ rfl
      have q1 : wo.cell? ⟨pb, po + k * 5 + 1, none⟩ = some (.int .i64 p1) := up 1 _ rfl
      have q2 : wo.cell? ⟨pb, po + k * 5 + 2, none⟩ = some (.int .i64 p2) := up 2 _ rfl
      have q3 : wo.cell? ⟨pb, po + k * 5 + 3, none⟩ = some (.int .i64 p3) := up 3 _ rfl
      have q4 : wo.cell? ⟨pb, po + k * 5 + 4, none⟩ = some (.int .i64 p4) := up 4 _ rfl
      have ikn : (k : Int) < (m1 : Int) := by omega
      change Hid (Calls _ _ #[.agg #[.string (B pn), _, _, _, _]] wo _) at HLN
      generalize joinB 32 (polLn ⟨pn, p1, p2, p3, p4⟩) = ln at HLN hlz HSN HLD
      obtain ⟨ls, hls⟩ : ∃ u, B ln = u := ⟨_, rfl⟩
      obtain ⟨ns, hns⟩ : ∃ u, B pn = u := ⟨_, rfl⟩
      rw [hls] at HLN hlz HLD
      rw [hns] at q0 HLN
      clear hpcs hp up hpr hls hns HPAT HRAT HRA HRI HB1 HB2 HXE
      go_wp2_with fail
      refine HLN.out.mono ?_
      rintro e w1 ⟨rfl, hb⟩
      have HN : Hid (Below X.heap.size X w1) := below_step HK.out (Nat.le_refl _) hb
      clear hb
      go_wp2
      go_roundw
      case rel => exact ⟨k + 1, _, by omega, by go_num, rfl, by rw [HSN.out]; simp [HT.out, HLD.out], HN.out⟩
      case measure => simp [intOf]; omega
    · obtain rfl : k = m1 := by omega
      have HT2 : Hid (t.data.toList = (s.pols.map plF).flatten) := by
        show _ = _
        rw [HT.out, List.take_of_length_le (by rw [HL1.out]; exact Nat.le_refl _)]
      have HPZ : Hid (((s.pols.map plF).flatten).length ≤ 12004) := by show _ ≤ _; rw [← HT2.out, ← size_data rfl]; exact hts
      obtain ⟨t0, ht0⟩ : ∃ t0, t0 = t := ⟨_, rfl⟩
      clear HT HPAT HB1 HXE
      go_wp2
      go_loopw [3, 25] (fun o i wr => ∃ (j : Nat) (t : ByteArray), j ≤ m2 ∧ i = .int .i64 (j : Int) ∧ o = .string t ∧ Hid (t.data.toList = (s.pols.map plF).flatten ++ ((s.rules.take j).map rlF).flatten ∧ Below X.heap.size X wr)) (fun _ i _ => m2 - (intOf i).toNat)
      case atStart => exact ⟨0, _, Nat.zero_le _, rfl, rfl, by rw [HT2.out]; simp, HK.out⟩
      case round =>
        clear r0 r1 HB0 HW HK HT2 hts ht0
        obtain ⟨wv, rfl⟩ : ∃ x, x = wr := ⟨_, rfl⟩
        obtain ⟨j, t2, hj, rfl, rfl, HR⟩ := hrel
        have HT := Lib.hid HR.out.1
        have HK := Lib.hid HR.out.2
        have hts : t2.size ≤ 60100 := by
          rw [size_data HT.out, List.length_append]
          have h1 := HPZ.out
          have h2 := HB2.out j
          omega
        have HW : Hid (Below w.heap.size w wv) := below_step HX.out.1 (Nat.le_refl _) HK.out
        have HB0 : Hid (Blk wv w.heap.size 35 #[.slice b1 k e1, .slice b2 m2 e2]) := HX.out.2.below HK.out HX.out.2.lt
        have r0 := (HB0.out.cl 0 _ rfl).1
        have r1 := (HB0.out.cl 1 _ rfl).1
        clear HR
        by_cases hlt : j < m2
        · obtain ⟨rb, ro, rfl, hrcs⟩ := HRAT.out (by rw [HL2.out.1]; omega)
          obtain ⟨raw, hraw⟩ : ∃ r, raws[j]? = some r := ⟨_, List.getElem?_eq_getElem (by rw [HL2.out.1]; exact hlt)⟩
          obtain ⟨rul, hrul⟩ : ∃ r, s.rules[j]? = some r := ⟨_, List.getElem?_eq_getElem (by rw [HL2.out.2]; exact hlt)⟩
          have hri := HRA.out.2 j _ _ hraw hrul
          have hfo := HRI.out.rules rul (List.mem_of_getElem? hrul)
          have up : ∀ (i : Nat) (u : Value), (encR raw)[i]? = some u → wv.cell? ⟨rb, ro + j * 6 + i, none⟩ = some u := fun i u h => cell_bl HW.out (hrcs j _ hraw i u h)
          obtain ⟨kd, ⟨x1, y1, w1⟩, ⟨x2, y2, w2⟩, mt, kp, ⟨x5, y5, w5⟩⟩ := raw
          have HLN := Lib.hid (refLineR_any kd x1 x2 x5 y1 w1 y2 w2 y5 w5 mt kp rul wv (hri.below HW.out) hfo)
          have hlz : (B (joinB 32 (rulLn rul))).size ≤ 3000 := by rw [B_size]; exact rule_line_len hfo
          have HSN : Hid (((s.rules.take (j + 1)).map rlF).flatten = ((s.rules.take j).map rlF).flatten ++ (joinB 32 (rulLn rul) ++ [10])) := map_snoc hrul
          have HLD : Hid ((B (joinB 32 (rulLn rul))).data.toList = joinB 32 (rulLn rul)) := rfl
          have q0 : wv.cell? ⟨rb, ro + j * 6, none⟩ = some (.int .i64 kd) := up 0 _ rfl
          have q1 : wv.cell? ⟨rb, ro + j * 6 + 1, none⟩ = some (.slice x1 y1 w1) := up 1 _ rfl
          have q2 : wv.cell? ⟨rb, ro + j * 6 + 2, none⟩ = some (.slice x2 y2 w2) := up 2 _ rfl
          have q3 : wv.cell? ⟨rb, ro + j * 6 + 3, none⟩ = some (.string (B mt)) := up 3 _ rfl
          have q4 : wv.cell? ⟨rb, ro + j * 6 + 4, none⟩ = some (.bool kp) := up 4 _ rfl
          have q5 : wv.cell? ⟨rb, ro + j * 6 + 5, none⟩ = some (.slice x5 y5 w5) := up 5 _ rfl
          have ijn : (j : Int) < (m2 : Int) := by omega
          generalize joinB 32 (rulLn rul) = ln at HLN hlz HSN HLD
          obtain ⟨ls, hls⟩ : ∃ u, B ln = u := ⟨_, rfl⟩
          obtain ⟨ms, hms⟩ : ∃ u, B mt = u := ⟨_, rfl⟩
          rw [hls] at HLN hlz HLD
          rw [hms] at q3 HLN
          clear hrcs hraw hrul hri hfo up hls hms HRAT HRA HRI HB2 HPZ
          go_wp2_with fail
          refine HLN.out.mono ?_
          rintro e w3 ⟨rfl, hb⟩
          have HN : Hid (Below X.heap.size X w3) := below_step HK.out (Nat.le_refl _) hb
          clear hb
          go_wp2
          go_roundw
          case rel => exact ⟨j + 1, _, by omega, by go_num, rfl, by rw [HSN.out]; simp [HT.out, HLD.out], HN.out⟩
          case measure => simp [intOf]; omega
        · obtain rfl : j = m2 := by omega
          have HF : Hid (t2 = B (printP s)) := data_B (by rw [HT.out, print_eq, List.take_of_length_le (by rw [HL2.out.2]; exact Nat.le_refl _)])
          clear HT HRAT HRA HRI HB2 HPZ
          go_wp2
          go_ret
          exact ⟨by rw [HF.out]; rfl, HW.out⟩
end Ru
end Go.Proofs.YtiahelekgjdjlaaGreatDoor
