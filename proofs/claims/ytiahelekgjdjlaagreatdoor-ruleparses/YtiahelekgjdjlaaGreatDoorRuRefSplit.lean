
/- What the document's Split (tidemillref07) and list (tidemillref09) answer. -/
import Derived.Test.YtiahelekgjdjlaaGreatDoorGsK
import Derived.Test.YtiahelekgjdjlaaGreatDoorGsF
import Derived.Test.YtiahelekgjdjlaaGreatDoorRuDigP
namespace Go.Proofs.YtiahelekgjdjlaaGreatDoor
open Go.RowKit Go.Shelf
open Dp Gb
attribute [local go_sem] Oper.semAt_some
namespace Ru
attribute [local go_sem ↓] apR_eq
set_option maxRecDepth 100000 in
set_option maxHeartbeats 2000000 in
theorem refSplitR_any (l : List UInt8) (c : UInt8) (w : World) (hl : l.length ≤ 9000) :
    Calls Tryz.prog 37 #[strV l, .int .u8 c.toNat] w fun e w' => ∃ a n k, e = .returned (.slice a n k) ∧ OwnT w' w.heap.size (.slice a n k) (spl c l) ∧ Below w.heap.size w w' := by
  have HST : Hid (OwnT w w.heap.size (.slice none 0 0) []) := World.ownsRow_nil _ _ _ _
  have hmany := spl_many c l
  have HM : Hid ((spl c l).length ≤ 9001) := by show _ ≤ _; omega
  have HLL := Lib.hid hl
  clear hmany hl
  go_enter Tryz.func37, Tryz.ntmps37
  go_wp2
  go_loopw [0, 5, 6, 7, 8, 9] (fun s o m _ _ _ wr => ∃ (r : List UInt8) (a : Option Addr) (n k : Nat) (done : List (List UInt8)) (b : Bool), s = strV r ∧ o = .slice a n k ∧ m = .bool b ∧ Hid (OwnT wr w.heap.size (.slice a n k) done ∧ Below w.heap.size w wr ∧ r.length ≤ 9000 ∧ (b = true → spl c l = done ++ spl c r) ∧ (b = false → spl c l = done))) (fun s _ m _ _ _ _ => (match s, m with | .string x, .bool true => x.size + 1 | _, _ => 0))
  case atStart => exact ⟨l, none, 0, 0, [], true, rfl, rfl, rfl, HST.out, Below.refl _ _, HLL.out, fun _ => rfl, fun h => by cases h⟩
  case round =>
    obtain ⟨r, a, n, k, done, b, rfl, rfl, rfl, HR⟩ := hrel
    cases b with
    | false =>
      have HF := Lib.hid HR.out
      go_wp2
      go_ret
      exact ⟨_, _, _, rfl, by rw [HF.out.2.2.2.2 trivial]; exact HF.out.1, HF.out.2.1⟩
    | true =>
      have hrl := HR.out.2.2.1
      have HC := Lib.hid (Y2.refCut_any (B r) c wr (small_max (by omega)))
      change Hid (Calls _ _ _ wr fun e w' => e = .returned (.tuple #[.string (B (Lib.cut r [c]).1), .string (B (Lib.cut r [c]).2.1), .bool (Lib.cut r [c]).2.2]) ∧ _) at HC
      have HD : Hid (spl c l = done ++ spl c r) := HR.out.2.2.2.1 rfl
      have hdl : done.length ≤ 10000 := by
        have h1 := HM.out
        rw [HD.out, List.length_append] at h1
        omega
      have HSC := Lib.hid (spl_cut c r)
      have HCL := Lib.hid (cut_len c r)
      have HCS := Lib.hid (cut_cases c r)
      generalize hcc : Lib.cut r [c] = cc at HC HSC HCL
      obtain ⟨c1, c2, c3⟩ := cc
      have HCC := Lib.hid hcc
      have HAP : Hid (∀ q, ∃ a' n' k' W', (∀ ty, (ApR #[58, 58] ty #[.slice a n k, .slice (some ⟨wr.heap.size, 0, none⟩) 1 1]).run Tryz.prog ((wr.drewN q).alloc (.cells #[strV c1] 9)) = .ok (.slice a' n' k') W') ∧ OwnT W' w.heap.size (.slice a' n' k') (done ++ [c1]) ∧ Below w.heap.size w W') := fun q => by
        obtain ⟨a', n', k', W', h1, h2, -, h3, -, -⟩ := app2 layT (W := wr.drewN q) (Bs := w.heap.size) (v := .slice a n k) c1 #[strV c1] rfl (own_stays HR.out.1 (fun g cs k => k.below (below_q wr q) k.lt)) hdl HR.out.2.1.size
        exact ⟨a', n', k', W', h1, h2, (below_drewN HR.out.2.1 q).trans h3⟩
      clear hcc hdl
      go_wp2_with fail
      refine HC.out.mono ?_
      rintro e w1 ⟨rfl, q, rfl⟩
      obtain ⟨a', n', k', W', hap, h2, h3⟩ := HAP.out q
      have HN : Hid (OwnT W' w.heap.size (.slice a' n' k') (done ++ [c1]) ∧ Below w.heap.size w W' ∧ c2.length ≤ 9000 ∧ (c3 = true → spl c l = done ++ [c1] ++ spl c c2) ∧ (c3 = false → spl c l = done ++ [c1])) := by
        refine ⟨h2, h3, by have h5 : c2.length ≤ r.length := HCL.out.2; have := HR.out.2.2.1; omega, fun h => ?_, fun h => ?_⟩
        · have h5 := HSC.out
          simp only [h, if_true] at h5
          rw [HD.out, h5]; simp
        · have h5 := HSC.out
          simp only [h, Bool.false_eq_true, if_false] at h5
          rcases HCS.out with ⟨_, h6⟩ | ⟨_, _, _, _, h6⟩
          · rw [HCC.out] at h6
            injection h6 with h6 _
            rw [HD.out, h5, h6]
          · rw [HCC.out, h] at h6
            injection h6 with _ h6
            injection h6 with _ h6
            cases h6
      have HMS : Hid (c3 = true → c2.length < r.length) := fun h => by
        rcases HCS.out with ⟨_, h6⟩ | ⟨p, q', _, hr, h6⟩
        · rw [HCC.out, h] at h6
          injection h6 with _ h6
          injection h6 with _ h6
          cases h6
        · rw [HCC.out] at h6
          injection h6 with _ h6
          injection h6 with h6 _
          rw [h6, hr]; simp; omega
      clear h2 h3 HAP
      go_wp2
      go_roundw
      case rel => exact ⟨c2, a', n', k', done ++ [c1], c3, rfl, rfl, rfl, HN⟩
      case measure =>
        cases c3 with
        | true => have h := HMS.out rfl; show (B c2).size + 1 < (B r).size + 1; rw [B_size, B_size]; omega
        | false => show 0 < (B r).size + 1; omega
set_option maxRecDepth 100000 in
set_option maxHeartbeats 2000000 in
theorem refList_any (l : List UInt8) (w : World) (hl : l.length ≤ 9000) :
    Calls Tryz.prog 71 #[.string (B l)] w fun e w' => ∃ a n k, e = .returned (.slice a n k) ∧ EsT w' (.slice a n k) (labsD l) ∧ Below w.heap.size w w' := by
  have HS := Lib.hid (refSplitR_any l 44 w hl)
  have HD : Hid (labsD l = if l = wNone then [] else spl 44 l) := rfl
  have hq : ((B l).toList == [45]) = decide (l = wNone) := by
    rw [eq_lit, Bool.eq_iff_iff, beq_iff_eq, decide_eq_true_eq]
    rfl
  unfold strV at HS
  by_cases h : l = wNone
  · rw [decide_eq_true h] at hq
    have HD2 : Hid (labsD l = []) := by show _ = _; rw [HD.out, if_pos h]
    generalize B l = s at hq HS ⊢
    clear HS HD h hl
    go_enter Tryz.func71, Tryz.ntmps71
    go_wp2
    go_ret
    exact ⟨_, _, _, rfl, by rw [HD2.out]; exact Vec.Es.nil _ _ _, Below.refl _ _⟩
  · rw [decide_eq_false h] at hq
    have HD2 : Hid (labsD l = spl 44 l) := by show _ = _; rw [HD.out, if_neg h]
    generalize B l = s at hq HS ⊢
    change Hid (Calls _ _ #[.string s, .int .u8 44] w _) at HS
    clear HD h hl
    go_enter Tryz.func71, Tryz.ntmps71
    go_wp2_with fail
    refine HS.out.mono ?_
    rintro e w1 ⟨a, n, k, rfl, ho, hb⟩
    have HF : Hid (EsT w1 (.slice a n k) (labsD l) ∧ Below w.heap.size w w1) := ⟨by rw [HD2.out]; exact ho.es, hb⟩
    clear ho hb
    go_wp2
    go_ret
    exact ⟨_, _, _, rfl, HF.out⟩
end Ru
end Go.Proofs.YtiahelekgjdjlaaGreatDoor
