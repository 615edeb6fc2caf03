/- What package rule's ruleText answers, of a right rule of kind 1. What package rule's ruleText answers, of a right rule of kind 2. What package rule's ruleText answers, of a right rule of kind 3. What package rule's ruleText answers, of any right rule. -/
import Derived.Test.YtiahelekgjdjlaaGreatDoorRuTextQ
namespace Go.Proofs.YtiahelekgjdjlaaGreatDoor
open Go.RowKit Go.Shelf
open Dp Gb
attribute [local go_sem] Oper.semAt_some
namespace Ru
attribute [local go_sem ↓] apR_eq
set_option maxRecDepth 2000000 in
set_option maxHeartbeats 16000000 in
theorem ruleText_1 (a1 a2 a3 : Option Addr) (n1 c1' n2 c2' n3 c3' : Nat) (mt : List UInt8) (kp : Bool) (x : Rul) (w : World) (hE : EnvR w) (h : RawRd w ⟨1, ⟨a1, n1, c1'⟩, ⟨a2, n2, c2'⟩, mt, kp, ⟨a3, n3, c3'⟩⟩ x) (hf : formed x = true) :
    Calls Tryz.prog 28 #[.agg #[.int .i64 1, .slice a1 n1 c1', .slice a2 n2 c2', .string (B mt), .bool kp, .slice a3 n3 c3']] w fun e w' => ∃ a n c, e = .returned (.slice a n c) ∧ EsT w' (.slice a n c) (rulLn x) ∧ Below w.heap.size w w' := by
  obtain ⟨hm, hl6, hkc⟩ := formed_cases hf
  obtain ⟨ma, mc, e1, _, hmat⟩ := RdM.at h.when
  have e1 : Value.slice a1 n1 c1' = _ := e1
  injection e1 with e1 hq1 e1'
  subst e1 e1'
  have hn1 : n1 = x.when.length := hq1
  clear hq1
  have HMAT := Lib.hid (And.intro hn1 hmat)
  have HOK := Lib.hid (List.all_eq_true.1 hm)
  have hkx : x.kind = 1 := h.kind.symm
  have HTO := Lib.hid h.to
  have HLB := Lib.hid h.labs
  have hkp : kp = x.keep := h.keep
  have hmt : mt = x.met := h.met
  have HRT : Hid (rulLn x = (wDrop :: x.when.map matLn) ++ tailT x) := by show _ = _; unfold rulLn kindW; rw [hkx]; rfl
  have z1 : n1 ≤ 6 := by rw [hn1]; exact hl6
  obtain ⟨mts, hmts⟩ : ∃ s, B mt = s := ⟨_, rfl⟩
  have g1 : w.cell? ⟨1, 1, none⟩ = some (.string ⟨#[100, 114, 111, 112]⟩) := hE.k1
  have HEE := Lib.hid hE
  obtain ⟨X, hX⟩ : ∃ X, (w.alloc (.cells #[.int .i64 1, .slice a1 n1 c1', .slice a2 n2 c2', .string mts, .bool kp, .slice a3 n3 c3'] 60)).alloc (.cells #[.string ⟨#[100, 114, 111, 112]⟩] 9) = X := ⟨_, rfl⟩
  have HX : Hid (Below w.heap.size w X ∧ Blk X w.heap.size 60 #[.int .i64 1, .slice a1 n1 c1', .slice a2 n2 c2', .string mts, .bool kp, .slice a3 n3 c3'] ∧ OwnT X (w.heap.size + 1) (.slice (some ⟨w.heap.size + 1, 0, none⟩) 1 1) (wDrop :: (x.when.take 0).map matLn) ∧ w.heap.size + 1 ≤ X.heap.size) := by
    refine ⟨by rw [← hX]; exact ((Below.refl _ w).alloc (Nat.le_refl _) _).alloc (by simp) _, by rw [← hX]; exact (Blk.new w _ _).alloc _, ?_, by rw [← hX]; simp⟩
    have := own_built (w.alloc (.cells #[.int .i64 1, .slice a1 n1 c1', .slice a2 n2 c2', .string mts, .bool kp, .slice a3 n3 c3'] 60)) [wDrop] #[.string ⟨#[100, 114, 111, 112]⟩] rfl (w.heap.size + 1) (by simp) 1 rfl (by decide)
    rw [hX, World.size_alloc] at this
    exact this
  have HXE := Lib.hid hX
  have hg1 : 1 < w.heap.size := lt_of_cell g1
  have HTL : Hid (tailT x = []) := by show _ = _; unfold tailT; rw [hkx]; rfl
  rw [hmts]
  clear hm hl6 hkc hmat hn1 hkp hmt hkx h hf hX HTO HLB hE hmts
  go_enter Tryz.func28, Tryz.ntmps28
  go_wp2
  rw [HXE.out]
  clear g1 hg1
  go_loopw [3, 14] (fun s i wr => ∃ (k : Nat) (a : Option Addr) (n c : Nat), k ≤ n1 ∧ i = .int .i64 (k : Int) ∧ s = .slice a n c ∧ Hid (OwnT wr (w.heap.size + 1) (.slice a n c) (wDrop :: (x.when.take k).map matLn) ∧ Below (w.heap.size + 1) X wr)) (fun _ i _ => n1 - (intOf i).toNat)
  case atStart => exact ⟨0, _, _, _, Nat.zero_le _, rfl, rfl, HX.out.2.2.1, Below.refl _ _⟩
  case round =>
    obtain ⟨k, a, n, c, hk, rfl, rfl, HR⟩ := hrel
    have HB0 : Hid (Blk wr w.heap.size 60 #[.int .i64 1, .slice a1 n1 c1', .slice a2 n2 c2', .string mts, .bool kp, .slice a3 n3 c3']) := HX.out.2.1.below HR.out.2 (Nat.lt_succ_self _)
    obtain ⟨c0, c1, c2, c3, c4, c5⟩ := cells6 HB0.out
    have HW : Hid (Below w.heap.size w wr ∧ w.heap.size + 1 ≤ wr.heap.size) := ⟨HX.out.1.trans (HR.out.2.mono (Nat.le_succ _)), Nat.le_trans HX.out.2.2.2 HR.out.2.size⟩
    by_cases hlt : k < n1
    · obtain ⟨mb, mo, rfl, hmcs⟩ := HMAT.out.2 (by rw [← HMAT.out.1]; omega)
      obtain ⟨mat, hmat⟩ : ∃ r, x.when[k]? = some r := ⟨_, List.getElem?_eq_getElem (by rw [← HMAT.out.1]; exact hlt)⟩
      have up : ∀ (i : Nat) (u : Value), (encM mat)[i]? = some u → wr.cell? ⟨mb, mo + k * 3 + i, none⟩ = some u := fun i u h => cell_bl HW.out.1 (hmcs k _ hmat i u h)
      have HSN : Hid (wDrop :: (x.when.take (k + 1)).map matLn = (wDrop :: (x.when.take k).map matLn) ++ [matLn mat]) := by show _ = _; rw [mats_snoc hmat, List.cons_append]
      have HML := fun W => Lib.hid (matText_any mat W (HOK.out mat (List.mem_of_getElem? hmat)))
      have HAP : Hid (∀ V, Below wr.heap.size wr V → ∃ a' n' k' W', (∀ ty, (ApR #[58, 58] ty #[.slice a n c, .slice (some ⟨V.heap.size, 0, none⟩) 1 1]).run Tryz.prog (V.alloc (.cells #[.string (B (matLn mat))] 9)) = .ok (.slice a' n' k') W') ∧ OwnT W' (w.heap.size + 1) (.slice a' n' k') (wDrop :: (x.when.take (k + 1)).map matLn) ∧ Below (w.heap.size + 1) X W') := fun V hb => by
        have hs := hb.size
        have hs2 := HW.out.2
        obtain ⟨a', n', k', W', h1, h2, hsz, h3, -, -⟩ := app2 layT (W := V) (Bs := w.heap.size + 1) (v := .slice a n c) (matLn mat) #[.string (B (matLn mat))] rfl (own_stays HR.out.1 (fun g cs k => k.below hb k.lt)) (by rw [List.length_cons, List.length_map, List.length_take]; omega) (by omega)
        rw [← HSN.out] at h2
        exact ⟨a', n', k', W', h1, h2, HR.out.2.trans ((hb.mono hs2).trans h3)⟩
      obtain ⟨mn, mg, mp⟩ := mat
      have u0 : wr.cell? ⟨mb, mo + k * 3, none⟩ = some (.string (B mn)) := up 0 _ rfl
      have u1 : wr.cell? ⟨mb, mo + k * 3 + 1, none⟩ = some (.bool mg) := up 1 _ rfl
      have u2 : wr.cell? ⟨mb, mo + k * 3 + 2, none⟩ = some (.string (B mp)) := up 2 _ rfl
      change ∀ W, Hid (Calls _ _ #[.agg #[.string (B mn), .bool mg, .string (B mp)]] W _) at HML
      obtain ⟨ns, hns⟩ : ∃ s, B mn = s := ⟨_, rfl⟩
      obtain ⟨ps, hps⟩ : ∃ s, B mp = s := ⟨_, rfl⟩
      obtain ⟨ls, hls⟩ : ∃ s, B (matLn ⟨mn, mg, mp⟩) = s := ⟨_, rfl⟩
      rw [hls] at HAP
      simp only [hns, hps, hls] at u0 u2 HML
      have ikn : (k : Int) < (n1 : Int) := by omega
      have HBA : Hid (∀ V, Below (wr.alloc (.cells #[.string ns, .bool mg, .string ps] 49)).heap.size (wr.alloc (.cells #[.string ns, .bool mg, .string ps] 49)) V → Below wr.heap.size wr V) := fun V h => below_step ((Below.refl _ wr).alloc (Nat.le_refl _) _) (Nat.le_refl _) h
      have u0l := lt_of_cell u0
      clear hmcs hmat up hns hps hls HMAT HOK HSN HRT HR HB0 HX HXE HTL HEE
      go_wp2_with fail
      refine (HML _).out.mono ?_
      rintro e V1 ⟨rfl, hb1⟩
      obtain ⟨a', n', k', W', hap, h2, h3⟩ := HAP.out V1 (HBA.out V1 hb1)
      have HN : Hid (OwnT W' (w.heap.size + 1) (.slice a' n' k') (wDrop :: (x.when.take (k + 1)).map matLn) ∧ Below (w.heap.size + 1) X W') := ⟨h2, h3⟩
      clear h2 h3 hb1 HAP HML HBA c0 c1 c2 c3 c4 c5
      go_wp2
      go_roundw
      case rel => exact ⟨k + 1, a', n', k', by omega, by go_num, rfl, HN⟩
      case measure => simp [intOf]; omega
    · obtain rfl : k = n1 := by omega
      have HS : Hid (OwnT wr (w.heap.size + 1) (.slice a n c) (wDrop :: x.when.map matLn)) := by
        have := HR.out.1
        rwa [List.take_of_length_le (by rw [← HMAT.out.1]; exact Nat.le_refl _)] at this
      have HK := Lib.hid HR.out.2
      have HLW : Hid ((wDrop :: x.when.map matLn).length ≤ 10000) := by show _ ≤ _; rw [List.length_cons, List.length_map, ← HMAT.out.1]; omega
      clear HR HMAT HOK HXE
      have HF : Hid (EsT wr (.slice a n c) (rulLn x) ∧ Below w.heap.size w wr) := ⟨by rw [HRT.out, HTL.out, List.append_nil]; exact HS.out.es, HW.out.1⟩
      clear HS HRT HTL HB0 HX HK HLW HEE
      go_wp2
      go_ret
      exact ⟨_, _, _, rfl, HF.out⟩
end Ru
end Go.Proofs.YtiahelekgjdjlaaGreatDoor
namespace Go.Proofs.YtiahelekgjdjlaaGreatDoor
open Go.RowKit Go.Shelf
open Dp Gb
attribute [local go_sem] Oper.semAt_some
namespace Ru
attribute [local go_sem ↓] apR_eq
set_option maxRecDepth 2000000 in
set_option maxHeartbeats 16000000 in
theorem ruleText_2 (a1 a2 a3 : Option Addr) (n1 c1' n2 c2' n3 c3' : Nat) (mt : List UInt8) (kp : Bool) (x : Rul) (w : World) (hE : EnvR w) (h : RawRd w ⟨2, ⟨a1, n1, c1'⟩, ⟨a2, n2, c2'⟩, mt, kp, ⟨a3, n3, c3'⟩⟩ x) (hf : formed x = true) :
    Calls Tryz.prog 28 #[.agg #[.int .i64 2, .slice a1 n1 c1', .slice a2 n2 c2', .string (B mt), .bool kp, .slice a3 n3 c3']] w fun e w' => ∃ a n c, e = .returned (.slice a n c) ∧ EsT w' (.slice a n c) (rulLn x) ∧ Below w.heap.size w w' := by
  obtain ⟨hm, hl6, hkc⟩ := formed_cases hf
  obtain ⟨ma, mc, e1, _, hmat⟩ := RdM.at h.when
  have e1 : Value.slice a1 n1 c1' = _ := e1
  injection e1 with e1 hq1 e1'
  subst e1 e1'
  have hn1 : n1 = x.when.length := hq1
  clear hq1
  have HMAT := Lib.hid (And.intro hn1 hmat)
  have HOK := Lib.hid (List.all_eq_true.1 hm)
  have hkx : x.kind = 2 := h.kind.symm
  have HTO := Lib.hid h.to
  have HLB := Lib.hid h.labs
  have hkp : kp = x.keep := h.keep
  have hmt : mt = x.met := h.met
  have HRT : Hid (rulLn x = (wMap :: x.when.map matLn) ++ tailT x) := by show _ = _; unfold rulLn kindW; rw [hkx]; rfl
  have z1 : n1 ≤ 6 := by rw [hn1]; exact hl6
  obtain ⟨mts, hmts⟩ : ∃ s, B mt = s := ⟨_, rfl⟩
  have g2 : w.cell? ⟨1, 2, none⟩ = some (.string ⟨#[109, 97, 112]⟩) := hE.k2
  have HEE := Lib.hid hE
  obtain ⟨X, hX⟩ : ∃ X, (w.alloc (.cells #[.int .i64 2, .slice a1 n1 c1', .slice a2 n2 c2', .string mts, .bool kp, .slice a3 n3 c3'] 60)).alloc (.cells #[.string ⟨#[109, 97, 112]⟩] 9) = X := ⟨_, rfl⟩
  have HX : Hid (Below w.heap.size w X ∧ Blk X w.heap.size 60 #[.int .i64 2, .slice a1 n1 c1', .slice a2 n2 c2', .string mts, .bool kp, .slice a3 n3 c3'] ∧ OwnT X (w.heap.size + 1) (.slice (some ⟨w.heap.size + 1, 0, none⟩) 1 1) (wMap :: (x.when.take 0).map matLn) ∧ w.heap.size + 1 ≤ X.heap.size) := by
    refine ⟨by rw [← hX]; exact ((Below.refl _ w).alloc (Nat.le_refl _) _).alloc (by simp) _, by rw [← hX]; exact (Blk.new w _ _).alloc _, ?_, by rw [← hX]; simp⟩
    have := own_built (w.alloc (.cells #[.int .i64 2, .slice a1 n1 c1', .slice a2 n2 c2', .string mts, .bool kp, .slice a3 n3 c3'] 60)) [wMap] #[.string ⟨#[109, 97, 112]⟩] rfl (w.heap.size + 1) (by simp) 1 rfl (by decide)
    rw [hX, World.size_alloc] at this
    exact this
  have HXE := Lib.hid hX
  have HX0 : Hid (X.cell? ⟨w.heap.size, 0, none⟩ = some (.int .i64 2)) := (HX.out.2.1.cl 0 _ rfl).1
  have hg2 : 1 < w.heap.size := lt_of_cell g2
  have HTL : Hid (tailT x = [wArrow, joinB 44 x.to]) := by show _ = _; unfold tailT; rw [hkx]; rfl
  have htg : targets x.to = true := by
    rcases hkc with h1 | h1 | h1
    · exact absurd (hkx.symm.trans h1.1) (by decide)
    · exact h1.2.1
    · exact absurd (hkx.symm.trans h1.1) (by decide)
  have HJN := fun W (hb : Below w.heap.size w W) => Lib.hid (join_any (.slice a2 n2 c2') x.to 44 W (HTO.out.below hb) (targets_word htg).1 (by have := (targets_word htg).2.1; omega) (fun y hy => Nat.le_trans (word_len ((targets_word htg).2.2 y hy)) (by decide)))
  obtain ⟨cm, hcm⟩ : ∃ s, B (joinB 44 x.to) = s := ⟨_, rfl⟩
  simp only [hcm] at HJN
  have HCM := Lib.hid hcm
  rw [hmts]
  clear hm hl6 hkc hmat hn1 hkp hmt hkx h hf hX HTO HLB hE hmts htg hcm
  go_enter Tryz.func28, Tryz.ntmps28
  go_wp2
  rw [HXE.out]
  clear g2 hg2
  go_loopw [3, 14] (fun s i wr => ∃ (k : Nat) (a : Option Addr) (n c : Nat), k ≤ n1 ∧ i = .int .i64 (k : Int) ∧ s = .slice a n c ∧ Hid (OwnT wr (w.heap.size + 1) (.slice a n c) (wMap :: (x.when.take k).map matLn) ∧ Below (w.heap.size + 1) X wr)) (fun _ i _ => n1 - (intOf i).toNat)
  case atStart => exact ⟨0, _, _, _, Nat.zero_le _, rfl, rfl, HX.out.2.2.1, Below.refl _ _⟩
  case round =>
    obtain ⟨k, a, n, c, hk, rfl, rfl, HR⟩ := hrel
    have HB0 : Hid (Blk wr w.heap.size 60 #[.int .i64 2, .slice a1 n1 c1', .slice a2 n2 c2', .string mts, .bool kp, .slice a3 n3 c3']) := HX.out.2.1.below HR.out.2 (Nat.lt_succ_self _)
    obtain ⟨c0, c1, c2, c3, c4, c5⟩ := cells6 HB0.out
    have HW : Hid (Below w.heap.size w wr ∧ w.heap.size + 1 ≤ wr.heap.size) := ⟨HX.out.1.trans (HR.out.2.mono (Nat.le_succ _)), Nat.le_trans HX.out.2.2.2 HR.out.2.size⟩
    by_cases hlt : k < n1
    · obtain ⟨mb, mo, rfl, hmcs⟩ := HMAT.out.2 (by rw [← HMAT.out.1]; omega)
      obtain ⟨mat, hmat⟩ : ∃ r, x.when[k]? = some r := ⟨_, List.getElem?_eq_getElem (by rw [← HMAT.out.1]; exact hlt)⟩
      have up : ∀ (i : Nat) (u : Value), (encM mat)[i]? = some u → wr.cell? ⟨mb, mo + k * 3 + i, none⟩ = some u := fun i u h => cell_bl HW.out.1 (hmcs k _ hmat i u h)
      have HSN : Hid (wMap :: (x.when.take (k + 1)).map matLn = (wMap :: (x.when.take k).map matLn) ++ [matLn mat]) := by show _ = _; rw [mats_snoc hmat, List.cons_append]
      have HML := fun W => Lib.hid (matText_any mat W (HOK.out mat (List.mem_of_getElem? hmat)))
      have HAP : Hid (∀ V, Below wr.heap.size wr V → ∃ a' n' k' W', (∀ ty, (ApR #[58, 58] ty #[.slice a n c, .slice (some ⟨V.heap.size, 0, none⟩) 1 1]).run Tryz.prog (V.alloc (.cells #[.string (B (matLn mat))] 9)) = .ok (.slice a' n' k') W') ∧ OwnT W' (w.heap.size + 1) (.slice a' n' k') (wMap :: (x.when.take (k + 1)).map matLn) ∧ Below (w.heap.size + 1) X W') := fun V hb => by
        have hs := hb.size
        have hs2 := HW.out.2
        obtain ⟨a', n', k', W', h1, h2, hsz, h3, -, -⟩ := app2 layT (W := V) (Bs := w.heap.size + 1) (v := .slice a n c) (matLn mat) #[.string (B (matLn mat))] rfl (own_stays HR.out.1 (fun g cs k => k.below hb k.lt)) (by rw [List.length_cons, List.length_map, List.length_take]; omega) (by omega)
        rw [← HSN.out] at h2
        exact ⟨a', n', k', W', h1, h2, HR.out.2.trans ((hb.mono hs2).trans h3)⟩
      obtain ⟨mn, mg, mp⟩ := mat
      have u0 : wr.cell? ⟨mb, mo + k * 3, none⟩ = some (.string (B mn)) := up 0 _ rfl
      have u1 : wr.cell? ⟨mb, mo + k * 3 + 1, none⟩ = some (.bool mg) := up 1 _ rfl
      have u2 : wr.cell? ⟨mb, mo + k * 3 + 2, none⟩ = some (.string (B mp)) := up 2 _ rfl
      change ∀ W, Hid (Calls _ _ #[.agg #[.string (B mn), .bool mg, .string (B mp)]] W _) at HML
      obtain ⟨ns, hns⟩ : ∃ s, B mn = s := ⟨_, rfl⟩
      obtain ⟨ps, hps⟩ : ∃ s, B mp = s := ⟨_, rfl⟩
      obtain ⟨ls, hls⟩ : ∃ s, B (matLn ⟨mn, mg, mp⟩) = s := ⟨_, rfl⟩
      rw [hls] at HAP
      simp only [hns, hps, hls] at u0 u2 HML
      have ikn : (k : Int) < (n1 : Int) := by omega
      have HBA : Hid (∀ V, Below (wr.alloc (.cells #[.string ns, .bool mg, .string ps] 49)).heap.size (wr.alloc (.cells #[.string ns, .bool mg, .string ps] 49)) V → Below wr.heap.size wr V) := fun V h => below_step ((Below.refl _ wr).alloc (Nat.le_refl _) _) (Nat.le_refl _) h
      have u0l := lt_of_cell u0
      clear hmcs hmat up hns hps hls HMAT HOK HSN HRT HR HB0 HX HXE HTL HEE HJN HCM HX0
      go_wp2_with fail
      refine (HML _).out.mono ?_
      rintro e V1 ⟨rfl, hb1⟩
      obtain ⟨a', n', k', W', hap, h2, h3⟩ := HAP.out V1 (HBA.out V1 hb1)
      have HN : Hid (OwnT W' (w.heap.size + 1) (.slice a' n' k') (wMap :: (x.when.take (k + 1)).map matLn) ∧ Below (w.heap.size + 1) X W') := ⟨h2, h3⟩
      clear h2 h3 hb1 HAP HML HBA c0 c1 c2 c3 c4 c5
      go_wp2
      go_roundw
      case rel => exact ⟨k + 1, a', n', k', by omega, by go_num, rfl, HN⟩
      case measure => simp [intOf]; omega
    · obtain rfl : k = n1 := by omega
      have HS : Hid (OwnT wr (w.heap.size + 1) (.slice a n c) (wMap :: x.when.map matLn)) := by
        have := HR.out.1
        rwa [List.take_of_length_le (by rw [← HMAT.out.1]; exact Nat.le_refl _)] at this
      have HK := Lib.hid HR.out.2
      have HLW : Hid ((wMap :: x.when.map matLn).length ≤ 10000) := by show _ ≤ _; rw [List.length_cons, List.length_map, ← HMAT.out.1]; omega
      clear HR HMAT HOK HXE
      have HAP2 : Hid (∀ V, Below wr.heap.size wr V → ∃ a' n' k' W', (∀ ty, (ApR #[58, 58] ty #[.slice a n c, .slice (some ⟨V.heap.size, 0, none⟩) 2 2]).run Tryz.prog (V.alloc (.cells #[.string ⟨#[45, 62]⟩, .string cm] 9)) = .ok (.slice a' n' k') W') ∧ OwnT W' (w.heap.size + 1) (.slice a' n' k') ((wMap :: x.when.map matLn) ++ [wArrow, joinB 44 x.to]) ∧ Below (w.heap.size + 1) X W') := fun V hb => by
        have hs := hb.size
        have hs2 := HW.out.2
        obtain ⟨a', n', k', W', h1, h2, h3⟩ := appL layT (W := V) (Bs := w.heap.size + 1) (v := .slice a n c) [wArrow, joinB 44 x.to] #[.string ⟨#[45, 62]⟩, .string cm] (by rw [← HCM.out]; rfl) (own_stays HS.out (fun g cs k => k.below hb k.lt)) HLW.out (by simp) (by omega)
        exact ⟨a', n', k', W', h1, h2, HK.out.trans ((hb.mono hs2).trans h3)⟩
      have HJ := HJN _ HW.out.1
      have HFN : Hid (∀ (W' : World) (a' : Option Addr) (n' k' : Nat), OwnT W' (w.heap.size + 1) (.slice a' n' k') ((wMap :: x.when.map matLn) ++ [wArrow, joinB 44 x.to]) → Below (w.heap.size + 1) X W' → EsT W' (.slice a' n' k') (rulLn x) ∧ Below w.heap.size w W') := fun W' a' n' k' h1 h2 => ⟨by rw [HRT.out, HTL.out]; exact h1.es, HX.out.1.trans (h2.mono (Nat.le_succ _))⟩
      clear HS HRT HTL HB0 HX HK HLW HEE HJN HCM
      go_wp2_with fail
      refine HJ.out.mono ?_
      rintro e V1 ⟨rfl, hb1⟩
      obtain ⟨a', n', k', W', hap, h2, h3⟩ := HAP2.out V1 hb1
      have HF := Lib.hid (HFN.out W' a' n' k' h2 h3)
      have hw2 : ∀ i v, X.cell? ⟨w.heap.size, i, none⟩ = some v → W'.cell? ⟨w.heap.size, i, none⟩ = some v := fun i v h => (h3.cell (p := ⟨w.heap.size, i, none⟩) (Nat.lt_succ_self _)).trans h
      have d0 : W'.cell? ⟨w.heap.size, 0, none⟩ = some (.int .i64 2) := hw2 0 _ HX0.out
      clear h2 h3 hb1 HAP2 HFN HJ hw2 HX0 c0 c1 c2 c3 c4 c5
      go_wp2
      go_ret
      exact ⟨_, _, _, rfl, HF.out⟩
end Ru
end Go.Proofs.YtiahelekgjdjlaaGreatDoor
namespace Go.Proofs.YtiahelekgjdjlaaGreatDoor
open Go.RowKit Go.Shelf
open Dp Gb
attribute [local go_sem] Oper.semAt_some
namespace Ru
attribute [local go_sem ↓] apR_eq
set_option maxRecDepth 2000000 in
set_option maxHeartbeats 16000000 in
theorem ruleText_3 (a1 a2 a3 : Option Addr) (n1 c1' n2 c2' n3 c3' : Nat) (mt : List UInt8) (kp : Bool) (x : Rul) (w : World) (hE : EnvR w) (h : RawRd w ⟨3, ⟨a1, n1, c1'⟩, ⟨a2, n2, c2'⟩, mt, kp, ⟨a3, n3, c3'⟩⟩ x) (hf : formed x = true) :
    Calls Tryz.prog 28 #[.agg #[.int .i64 3, .slice a1 n1 c1', .slice a2 n2 c2', .string (B mt), .bool kp, .slice a3 n3 c3']] w fun e w' => ∃ a n c, e = .returned (.slice a n c) ∧ EsT w' (.slice a n c) (rulLn x) ∧ Below w.heap.size w w' := by
  obtain ⟨hm, hl6, hkc⟩ := formed_cases hf
  obtain ⟨ma, mc, e1, _, hmat⟩ := RdM.at h.when
  have e1 : Value.slice a1 n1 c1' = _ := e1
  injection e1 with e1 hq1 e1'
  subst e1 e1'
  have hn1 : n1 = x.when.length := hq1
  clear hq1
  have HMAT := Lib.hid (And.intro hn1 hmat)
  have HOK := Lib.hid (List.all_eq_true.1 hm)
  have hkx : x.kind = 3 := h.kind.symm
  have HTO := Lib.hid h.to
  have HLB := Lib.hid h.labs
  have hkp : kp = x.keep := h.keep
  have hmt : mt = x.met := h.met
  have HRT : Hid (rulLn x = (wRoll :: x.when.map matLn) ++ tailT x) := by show _ = _; unfold rulLn kindW; rw [hkx]; rfl
  have z1 : n1 ≤ 6 := by rw [hn1]; exact hl6
  obtain ⟨mts, hmts⟩ : ∃ s, B mt = s := ⟨_, rfl⟩
  have g3 : w.cell? ⟨1, 3, none⟩ = some (.string ⟨#[114, 111, 108, 108]⟩) := hE.k3
  have HEE := Lib.hid hE
  obtain ⟨X, hX⟩ : ∃ X, (w.alloc (.cells #[.int .i64 3, .slice a1 n1 c1', .slice a2 n2 c2', .string mts, .bool kp, .slice a3 n3 c3'] 60)).alloc (.cells #[.string ⟨#[114, 111, 108, 108]⟩] 9) = X := ⟨_, rfl⟩
  have HX : Hid (Below w.heap.size w X ∧ Blk X w.heap.size 60 #[.int .i64 3, .slice a1 n1 c1', .slice a2 n2 c2', .string mts, .bool kp, .slice a3 n3 c3'] ∧ OwnT X (w.heap.size + 1) (.slice (some ⟨w.heap.size + 1, 0, none⟩) 1 1) (wRoll :: (x.when.take 0).map matLn) ∧ w.heap.size + 1 ≤ X.heap.size) := by
    refine ⟨by rw [← hX]; exact ((Below.refl _ w).alloc (Nat.le_refl _) _).alloc (by simp) _, by rw [← hX]; exact (Blk.new w _ _).alloc _, ?_, by rw [← hX]; simp⟩
    have := own_built (w.alloc (.cells #[.int .i64 3, .slice a1 n1 c1', .slice a2 n2 c2', .string mts, .bool kp, .slice a3 n3 c3'] 60)) [wRoll] #[.string ⟨#[114, 111, 108, 108]⟩] rfl (w.heap.size + 1) (by simp) 1 rfl (by decide)
    rw [hX, World.size_alloc] at this
    exact this
  have HXE := Lib.hid hX
  have HX0 : Hid (X.cell? ⟨w.heap.size, 0, none⟩ = some (.int .i64 3)) := (HX.out.2.1.cl 0 _ rfl).1
  have hg3 : 1 < w.heap.size := lt_of_cell g3
  have HTL : Hid (tailT x = [wArrow, joinB 44 x.to] ++ [wAs, mt, if kp then wKeep else wLess, labsT x.labs]) := by show _ = _; unfold tailT; rw [hkx, hmt, hkp]; rfl
  have htg : targets x.to = true ∧ rising x.labs = true := by
    rcases hkc with h1 | h1 | h1
    · exact absurd (hkx.symm.trans h1.1) (by decide)
    · exact absurd (hkx.symm.trans h1.1) (by decide)
    · exact ⟨h1.2.1, h1.2.2.2⟩
  have HJN := fun W (hb : Below w.heap.size w W) => Lib.hid (join_any (.slice a2 n2 c2') x.to 44 W (HTO.out.below hb) (targets_word htg.1).1 (by have := (targets_word htg.1).2.1; omega) (fun y hy => Nat.le_trans (word_len ((targets_word htg.1).2.2 y hy)) (by decide)))
  obtain ⟨cm, hcm⟩ : ∃ s, B (joinB 44 x.to) = s := ⟨_, rfl⟩
  simp only [hcm] at HJN
  have HLT := fun W (hb : Below w.heap.size w W) => Lib.hid (labsText_any a3 n3 c3' x.labs W (HLB.out.below hb) (by have := (rising_word htg.2).1; omega) (fun y hy => Nat.le_trans (word_len ((rising_word htg.2).2 y hy)) (by decide)))
  have HKT := fun W => Lib.hid (keepText_any kp W)
  obtain ⟨ls, hls⟩ : ∃ s, B (labsT x.labs) = s := ⟨_, rfl⟩
  obtain ⟨kb, hkb⟩ : ∃ s, B (if kp then wKeep else wLess) = s := ⟨_, rfl⟩
  simp only [hls] at HLT
  simp only [hkb] at HKT
  have HCM := Lib.hid (And.intro hcm (And.intro hls (And.intro hkb hmts)))
  rw [hmts]
  clear hm hl6 hkc hmat hn1 hkp hmt hkx h hf hX HTO HLB hE hmts htg hcm hls hkb
  go_enter Tryz.func28, Tryz.ntmps28
  go_wp2
  rw [HXE.out]
  clear g3 hg3
  go_loopw [3, 14] (fun s i wr => ∃ (k : Nat) (a : Option Addr) (n c : Nat), k ≤ n1 ∧ i = .int .i64 (k : Int) ∧ s = .slice a n c ∧ Hid (OwnT wr (w.heap.size + 1) (.slice a n c) (wRoll :: (x.when.take k).map matLn) ∧ Below (w.heap.size + 1) X wr)) (fun _ i _ => n1 - (intOf i).toNat)
  case atStart => exact ⟨0, _, _, _, Nat.zero_le _, rfl, rfl, HX.out.2.2.1, Below.refl _ _⟩
  case round =>
    obtain ⟨k, a, n, c, hk, rfl, rfl, HR⟩ := hrel
    have HB0 : Hid (Blk wr w.heap.size 60 #[.int .i64 3, .slice a1 n1 c1', .slice a2 n2 c2', .string mts, .bool kp, .slice a3 n3 c3']) := HX.out.2.1.below HR.out.2 (Nat.lt_succ_self _)
    obtain ⟨c0, c1, c2, c3, c4, c5⟩ := cells6 HB0.out
    have HW : Hid (Below w.heap.size w wr ∧ w.heap.size + 1 ≤ wr.heap.size) := ⟨HX.out.1.trans (HR.out.2.mono (Nat.le_succ _)), Nat.le_trans HX.out.2.2.2 HR.out.2.size⟩
    by_cases hlt : k < n1
    · obtain ⟨mb, mo, rfl, hmcs⟩ := HMAT.out.2 (by rw [← HMAT.out.1]; omega)
      obtain ⟨mat, hmat⟩ : ∃ r, x.when[k]? = some r := ⟨_, List.getElem?_eq_getElem (by rw [← HMAT.out.1]; exact hlt)⟩
      have up : ∀ (i : Nat) (u : Value), (encM mat)[i]? = some u → wr.cell? ⟨mb, mo + k * 3 + i, none⟩ = some u := fun i u h => cell_bl HW.out.1 (hmcs k _ hmat i u h)
      have HSN : Hid (wRoll :: (x.when.take (k + 1)).map matLn = (wRoll :: (x.when.take k).map matLn) ++ [matLn mat]) := by show _ = _; rw [mats_snoc hmat, List.cons_append]
      have HML := fun W => Lib.hid (matText_any mat W (HOK.out mat (List.mem_of_getElem? hmat)))
      have HAP : Hid (∀ V, Below wr.heap.size wr V → ∃ a' n' k' W', (∀ ty, (ApR #[58, 58] ty #[.slice a n c, .slice (some ⟨V.heap.size, 0, none⟩) 1 1]).run Tryz.prog (V.alloc (.cells #[.string (B (matLn mat))] 9)) = .ok (.slice a' n' k') W') ∧ OwnT W' (w.heap.size + 1) (.slice a' n' k') (wRoll :: (x.when.take (k + 1)).map matLn) ∧ Below (w.heap.size + 1) X W') := fun V hb => by
        have hs := hb.size
        have hs2 := HW.out.2
        obtain ⟨a', n', k', W', h1, h2, hsz, h3, -, -⟩ := app2 layT (W := V) (Bs := w.heap.size + 1) (v := .slice a n c) (matLn mat) #[.string (B (matLn mat))] rfl (own_stays HR.out.1 (fun g cs k => k.below hb k.lt)) (by rw [List.length_cons, List.length_map, List.length_take]; omega) (by omega)
        rw [← HSN.out] at h2
        exact ⟨a', n', k', W', h1, h2, HR.out.2.trans ((hb.mono hs2).trans h3)⟩
      obtain ⟨mn, mg, mp⟩ := mat
      have u0 : wr.cell? ⟨mb, mo + k * 3, none⟩ = some (.string (B mn)) := up 0 _ rfl
      have u1 : wr.cell? ⟨mb, mo + k * 3 + 1, none⟩ = some (.bool mg) := up 1 _ rfl
      have u2 : wr.cell? ⟨mb, mo + k * 3 + 2, none⟩ = some (.string (B mp)) := up 2 _ rfl
      change ∀ W, Hid (Calls _ _ #[.agg #[.string (B mn), .bool mg, .string (B mp)]] W _) at HML
      obtain ⟨ns, hns⟩ : ∃ s, B mn = s := ⟨_, rfl⟩
      obtain ⟨ps, hps⟩ : ∃ s, B mp = s := ⟨_, rfl⟩
      obtain ⟨ls, hls⟩ : ∃ s, B (matLn ⟨mn, mg, mp⟩) = s := ⟨_, rfl⟩
      rw [hls] at HAP
      simp only [hns, hps, hls] at u0 u2 HML
      have ikn : (k : Int) < (n1 : Int) := by omega
      have HBA : Hid (∀ V, Below (wr.alloc (.cells #[.string ns, .bool mg, .string ps] 49)).heap.size (wr.alloc (.cells #[.string ns, .bool mg, .string ps] 49)) V → Below wr.heap.size wr V) := fun V h => below_step ((Below.refl _ wr).alloc (Nat.le_refl _) _) (Nat.le_refl _) h
      have u0l := lt_of_cell u0
      clear hmcs hmat up hns hps hls HMAT HOK HSN HRT HR HB0 HX HXE HTL HEE HJN HCM HLT HKT HX0
      go_wp2_with fail
      refine (HML _).out.mono ?_
      rintro e V1 ⟨rfl, hb1⟩
      obtain ⟨a', n', k', W', hap, h2, h3⟩ := HAP.out V1 (HBA.out V1 hb1)
      have HN : Hid (OwnT W' (w.heap.size + 1) (.slice a' n' k') (wRoll :: (x.when.take (k + 1)).map matLn) ∧ Below (w.heap.size + 1) X W') := ⟨h2, h3⟩
      clear h2 h3 hb1 HAP HML HBA c0 c1 c2 c3 c4 c5
      go_wp2
      go_roundw
      case rel => exact ⟨k + 1, a', n', k', by omega, by go_num, rfl, HN⟩
      case measure => simp [intOf]; omega
    · obtain rfl : k = n1 := by omega
      have HS : Hid (OwnT wr (w.heap.size + 1) (.slice a n c) (wRoll :: x.when.map matLn)) := by
        have := HR.out.1
        rwa [List.take_of_length_le (by rw [← HMAT.out.1]; exact Nat.le_refl _)] at this
      have HK := Lib.hid HR.out.2
      have HLW : Hid ((wRoll :: x.when.map matLn).length ≤ 10000) := by show _ ≤ _; rw [List.length_cons, List.length_map, ← HMAT.out.1]; omega
      have HLW2 : Hid (x.when.length ≤ 6) := by show _ ≤ _; rw [← HMAT.out.1]; exact z1
      clear HR HMAT HOK HXE
      have HAP2 : Hid (∀ V, Below wr.heap.size wr V → ∃ a' n' k' W', (∀ ty, (ApR #[58, 58] ty #[.slice a n c, .slice (some ⟨V.heap.size, 0, none⟩) 2 2]).run Tryz.prog (V.alloc (.cells #[.string ⟨#[45, 62]⟩, .string cm] 9)) = .ok (.slice a' n' k') W') ∧ OwnT W' (w.heap.size + 1) (.slice a' n' k') ((wRoll :: x.when.map matLn) ++ [wArrow, joinB 44 x.to]) ∧ Below (w.heap.size + 1) X W') := fun V hb => by
        have hs := hb.size
        have hs2 := HW.out.2
        obtain ⟨a', n', k', W', h1, h2, h3⟩ := appL layT (W := V) (Bs := w.heap.size + 1) (v := .slice a n c) [wArrow, joinB 44 x.to] #[.string ⟨#[45, 62]⟩, .string cm] (by rw [← HCM.out.1]; rfl) (own_stays HS.out (fun g cs k => k.below hb k.lt)) HLW.out (by simp) (by omega)
        exact ⟨a', n', k', W', h1, h2, HK.out.trans ((hb.mono hs2).trans h3)⟩
      have HJ := HJN _ HW.out.1
      have HFN : Hid (∀ (W' : World) (a' : Option Addr) (n' k' : Nat), OwnT W' (w.heap.size + 1) (.slice a' n' k') (((wRoll :: x.when.map matLn) ++ [wArrow, joinB 44 x.to]) ++ [wAs, mt, if kp then wKeep else wLess, labsT x.labs]) → Below (w.heap.size + 1) X W' → EsT W' (.slice a' n' k') (rulLn x) ∧ Below w.heap.size w W') := fun W' a' n' k' h1 h2 => ⟨by rw [HRT.out, HTL.out, ← List.append_assoc]; exact h1.es, HX.out.1.trans (h2.mono (Nat.le_succ _))⟩
      have HSX : Hid (∀ V, Below (w.heap.size + 1) X V → V.cell? ⟨w.heap.size, 3, none⟩ = some (.string mts) ∧ V.cell? ⟨w.heap.size, 4, none⟩ = some (.bool kp) ∧ V.cell? ⟨w.heap.size, 5, none⟩ = some (.slice a3 n3 c3')) := fun V h => by
        obtain ⟨-, -, -, d3, d4, d5⟩ := cells6 (HX.out.2.1.below h (Nat.lt_succ_self _))
        exact ⟨d3, d4, d5⟩
      have HX1 : Hid (Below w.heap.size w X ∧ w.heap.size + 1 ≤ X.heap.size) := ⟨HX.out.1, HX.out.2.2.2⟩
      clear HS HRT HTL HB0 HX HK HEE HJN
      go_wp2_with fail
      refine HJ.out.mono ?_
      rintro e V1 ⟨rfl, hb1⟩
      obtain ⟨a', n', k', W', hap, h2, h3⟩ := HAP2.out V1 hb1
      have hw2 : ∀ i v, X.cell? ⟨w.heap.size, i, none⟩ = some v → W'.cell? ⟨w.heap.size, i, none⟩ = some v := fun i v h => (h3.cell (p := ⟨w.heap.size, i, none⟩) (Nat.lt_succ_self _)).trans h
      have d0 : W'.cell? ⟨w.heap.size, 0, none⟩ = some (.int .i64 3) := hw2 0 _ HX0.out
      have HBW : Hid (∀ V, Below W'.heap.size W' V → Below w.heap.size w V) := fun V h => below_step (HX1.out.1.trans (h3.mono (Nat.le_succ _))) (Nat.le_refl _) h
      have hsz : w.heap.size + 1 ≤ W'.heap.size := Nat.le_trans HX1.out.2 h3.size
      have HSC : Hid (∀ V, Below W'.heap.size W' V → V.cell? ⟨w.heap.size, 3, none⟩ = some (.string mts) ∧ V.cell? ⟨w.heap.size, 4, none⟩ = some (.bool kp) ∧ V.cell? ⟨w.heap.size, 5, none⟩ = some (.slice a3 n3 c3')) := fun V h => HSX.out V (h3.trans (h.mono hsz))
      have HAP4 : Hid (∀ V, Below W'.heap.size W' V → ∃ a4 n4 k4 W4, (∀ ty, (ApR #[58, 58] ty #[.slice a' n' k', .slice (some ⟨V.heap.size, 0, none⟩) 4 4]).run Tryz.prog (V.alloc (.cells #[.string ⟨#[97, 115]⟩, .string mts, .string kb, .string ls] 9)) = .ok (.slice a4 n4 k4) W4) ∧ OwnT W4 (w.heap.size + 1) (.slice a4 n4 k4) (((wRoll :: x.when.map matLn) ++ [wArrow, joinB 44 x.to]) ++ [wAs, mt, if kp then wKeep else wLess, labsT x.labs]) ∧ Below (w.heap.size + 1) X W4) := fun V hb => by
        have hs := hb.size
        obtain ⟨a4, n4, k4, W4, g1, g2, g3⟩ := appL layT (W := V) (Bs := w.heap.size + 1) (v := .slice a' n' k') [wAs, mt, if kp then wKeep else wLess, labsT x.labs] #[.string ⟨#[97, 115]⟩, .string mts, .string kb, .string ls] (by rw [← HCM.out.2.1, ← HCM.out.2.2.1, ← HCM.out.2.2.2]; rfl) (own_stays h2 (fun g cs k => k.below hb k.lt)) (by rw [List.length_append]; have := HLW2.out; simp at this ⊢; omega) (by simp) (by omega)
        exact ⟨a4, n4, k4, W4, g1, g2, h3.trans ((hb.mono hsz).trans g3)⟩
      clear h2 hb1 HAP2 HJ hw2 HX0 c0 c1 c2 c3 c4 c5 HCM hsz HX1 HLW HLW2 h3
      go_wp2
      refine wp_region_held_drew (S := (fun w' => w'.cell? ⟨w.heap.size, 3, none⟩ = some (.string mts) ∧ w'.cell? ⟨w.heap.size, 4, none⟩ = some (.bool kp) ∧ w'.cell? ⟨w.heap.size, 5, none⟩ = some (.slice a3 n3 c3'))) (by kernel_rfl) (HSC.out _ (below_dr (Below.refl _ _))) (fun hHeld => ?_)
      refine take_d (i := 0) (d := 36) (v := .slice a' n' k') rfl rfl (by kernel_rfl) (by kernel_rfl) (by kernel_rfl) (fun _ _ _ h => h) (Or.inl ⟨by kernel_rfl, ?_⟩) (by assumption) ?_
      · intro wS hSw
        obtain ⟨hS0, hS1, hS2⟩ := hSw
        go_simp
      simp only [Act.put, List.setIfInBounds_toArray, List.set_cons_zero, List.set_cons_succ]
      refine take_d (i := 1) (d := 37) (v := .pointer (some ⟨w.heap.size, 3, none⟩)) rfl rfl (by kernel_rfl) (by kernel_rfl) (by kernel_rfl) (fun _ _ _ h => h) (Or.inl ⟨by kernel_rfl, ?_⟩) (by assumption) ?_
      · intro wS hSw
        obtain ⟨hS0, hS1, hS2⟩ := hSw
        go_simp
      simp only [Act.put, List.setIfInBounds_toArray, List.set_cons_zero, List.set_cons_succ]
      refine take_d (i := 2) (d := 38) (v := .string mts) rfl rfl (by kernel_rfl) (by kernel_rfl) (by kernel_rfl) (fun _ _ _ h => h) (Or.inl ⟨by kernel_rfl, ?_⟩) (by assumption) ?_
      · intro wS hSw
        obtain ⟨hS0, hS1, hS2⟩ := hSw
        go_simp
      simp only [Act.put, List.setIfInBounds_toArray, List.set_cons_zero, List.set_cons_succ]
      refine take_d (i := 3) (d := 39) (v := .pointer (some ⟨w.heap.size, 4, none⟩)) rfl rfl (by kernel_rfl) (by kernel_rfl) (by kernel_rfl) (fun _ _ _ h => h) (Or.inl ⟨by kernel_rfl, ?_⟩) (by assumption) ?_
      · intro wS hSw
        obtain ⟨hS0, hS1, hS2⟩ := hSw
        go_simp
      simp only [Act.put, List.setIfInBounds_toArray, List.set_cons_zero, List.set_cons_succ]
      refine take_d (i := 4) (d := 40) (v := .bool kp) rfl rfl (by kernel_rfl) (by kernel_rfl) (by kernel_rfl) (fun _ _ _ h => h) (Or.inl ⟨by kernel_rfl, ?_⟩) (by assumption) ?_
      · intro wS hSw
        obtain ⟨hS0, hS1, hS2⟩ := hSw
        go_simp
      simp only [Act.put, List.setIfInBounds_toArray, List.set_cons_zero, List.set_cons_succ]
      refine take_d (i := 6) (d := 42) (v := .pointer (some ⟨w.heap.size, 5, none⟩)) rfl rfl (by kernel_rfl) (by kernel_rfl) (by kernel_rfl) (fun _ _ _ h => h) (Or.inl ⟨by kernel_rfl, ?_⟩) (by assumption) ?_
      · intro wS hSw
        obtain ⟨hS0, hS1, hS2⟩ := hSw
        go_simp
      simp only [Act.put, List.setIfInBounds_toArray, List.set_cons_zero, List.set_cons_succ]
      refine take_d (i := 7) (d := 43) (v := .slice a3 n3 c3') rfl rfl (by kernel_rfl) (by kernel_rfl) (by kernel_rfl) (fun _ _ _ h => h) (Or.inl ⟨by kernel_rfl, ?_⟩) (by assumption) ?_
      · intro wS hSw
        obtain ⟨hS0, hS1, hS2⟩ := hSw
        go_simp
      simp only [Act.put, List.setIfInBounds_toArray, List.set_cons_zero, List.set_cons_succ]
      refine wpAnyH_ready (rs := [5]) (by kernel_rfl) (by simp) ?_
      refine AllReadyH.cons rfl (fun K hK => ?_) ?_
      · go_simp
        go_wp2_with (go_at_call 58; refine (HKT _).out.mono ?_; rintro e V2 ⟨rfl, rfl⟩)
        refine hK.out _ _ ?_ (fun hHeld => ?_)
        · exact HSC.out _ (below_dr (Below.refl _ _))
        clear hK K
        refine wpAnyH_ready (rs := [8]) (by kernel_rfl) (by simp) ?_
        refine AllReadyH.cons rfl (fun K hK => ?_) ?_
        · go_simp
          go_wp2_with (go_at_call 59; refine (HLT _ (HBW.out _ (below_dr (Below.refl _ _)))).out.mono ?_; rintro e V3 ⟨rfl, hb3⟩)
          have hb4 : Below W'.heap.size W' V3 := below_step (below_dr0 W') (Nat.le_refl _) hb3
          obtain ⟨a4, n4, k4, W4, hap4, h5, h6⟩ := HAP4.out V3 hb4
          have HF := Lib.hid (HFN.out W4 a4 n4 k4 h5 h6)
          have HV3 := Lib.hid hb4
          have HW4 := Lib.hid h6
          clear hb3 hb4 h5 h6 HAP4 HFN
          refine hK.out _ _ ?_ (fun hHeld => ?_)
          · exact HSC.out _ HV3.out
          clear hK K
          refine wpAnyH_ready (rs := [9]) (by kernel_rfl) (by simp) ?_
          refine AllReadyH.cons rfl (fun K hK => ?_) ?_
          · go_simp
            refine hK.out _ _ ?_ (fun hHeld => ?_)
            · exact HSC.out _ (HV3.out.alloc HV3.out.size _)
            clear hK K
            refine wpAnyH_ready (rs := [10]) (by kernel_rfl) (by simp) ?_
            refine AllReadyH.cons rfl (fun K hK => ?_) ?_
            · go_simp
              refine hK.out _ _ ?_ (fun hHeld => ?_)
              · exact HSX.out _ HW4.out
              clear hK K
              refine take_d (i := 11) (d := 3) (v := .slice a4 n4 k4) rfl rfl (by kernel_rfl) (by kernel_rfl) (by kernel_rfl) (fun _ _ _ h => h) (Or.inl ⟨by kernel_rfl, ?_⟩) (by assumption) ?_
              · intro wS hSw
                obtain ⟨hS0, hS1, hS2⟩ := hSw
                go_simp
              simp only [Act.put, List.setIfInBounds_toArray, List.set_cons_zero, List.set_cons_succ]
              refine wpAnyH_done (by kernel_rfl) ?_ _
              go_wp2
              go_ret
              exact ⟨_, _, _, rfl, HF.out⟩
            exact AllReadyH.nil
          exact AllReadyH.nil
        exact AllReadyH.nil
      exact AllReadyH.nil
end Ru
end Go.Proofs.YtiahelekgjdjlaaGreatDoor
namespace Go.Proofs.YtiahelekgjdjlaaGreatDoor
open Go.RowKit Go.Shelf
open Dp Gb
namespace Ru
theorem ruleText_any (kd : Int) (a1 a2 a3 : Option Addr) (n1 c1' n2 c2' n3 c3' : Nat) (mt : List UInt8) (kp : Bool) (x : Rul) (w : World) (hE : EnvR w) (h : RawRd w ⟨kd, ⟨a1, n1, c1'⟩, ⟨a2, n2, c2'⟩, mt, kp, ⟨a3, n3, c3'⟩⟩ x) (hf : formed x = true) :
    Calls Tryz.prog 28 #[.agg #[.int .i64 kd, .slice a1 n1 c1', .slice a2 n2 c2', .string (B mt), .bool kp, .slice a3 n3 c3']] w fun e w' => ∃ a n c, e = .returned (.slice a n c) ∧ EsT w' (.slice a n c) (rulLn x) ∧ Below w.heap.size w w' := by
  have hk : kd = x.kind := h.kind
  have hc : kd = 1 ∨ kd = 2 ∨ kd = 3 := by
    rw [hk]
    rcases (formed_cases hf).2.2 with h1 | h1 | h1
    · exact .inl h1.1
    · exact .inr (.inl h1.1)
    · exact .inr (.inr h1.1)
  rcases hc with rfl | rfl | rfl
  · exact ruleText_1 a1 a2 a3 n1 c1' n2 c2' n3 c3' mt kp x w hE h hf
  · exact ruleText_2 a1 a2 a3 n1 c1' n2 c2' n3 c3' mt kp x w hE h hf
  · exact ruleText_3 a1 a2 a3 n1 c1' n2 c2' n3 c3' mt kp x w hE h hf
end Ru
end Go.Proofs.YtiahelekgjdjlaaGreatDoor
