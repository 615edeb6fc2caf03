
/- What the document's own rule answers of any words. -/
import Derived.Test.YtiahelekgjdjlaaGreatDoorRuRefRulA
import Derived.Test.YtiahelekgjdjlaaGreatDoorRuRefForm
import Derived.Test.YtiahelekgjdjlaaGreatDoorGsN
import Derived.Test.YtiahelekgjdjlaaGreatDoorGsB
import Derived.Deep.RegionHeld3
namespace Go.Proofs.YtiahelekgjdjlaaGreatDoor
open Go.RowKit Go.Shelf
open Dp Gb
attribute [local go_sem] Oper.semAt_some
namespace Ru
attribute [local go_sem ↓] apR_eq
theorem take_ahead1 {ws : List (List UInt8)} {j : Nat} {x : List UInt8} (h : (aheadP ws)[j]? = some x) : ws[j]? = some x ∧ x ≠ wArrow := by
  obtain ⟨hj, rfl⟩ := List.getElem?_eq_some_iff.1 h
  refine ⟨?_, ?_⟩
  · conv => lhs; rw [← ahead_behind ws]
    rw [List.getElem?_append_left hj]
    exact List.getElem?_eq_getElem hj
  · have := List.all_takeWhile (p := fun x : List UInt8 => x != wArrow) (l := ws)
    have := List.all_eq_true.1 this _ (List.getElem_mem hj)
    simpa using this
theorem at_behind {ws : List (List UInt8)} (h : (aheadP ws).length < ws.length) : ws[(aheadP ws).length]? = some wArrow := by
  have hb : behindP ws ≠ [] := fun e => by
    have := congrArg List.length (ahead_behind ws)
    rw [e, List.append_nil] at this
    omega
  obtain ⟨x, t, e⟩ := List.exists_cons_of_ne_nil hb
  have hx := behind_head e
  have hab := ahead_behind ws
  rw [e, hx] at hab
  generalize aheadP ws = A at hab
  rw [← hab, List.getElem?_append_right (Nat.le_refl _), Nat.sub_self]
  rfl
theorem ahead_le (ws : List (List UInt8)) : (aheadP ws).length ≤ ws.length := by
  have := congrArg List.length (ahead_behind ws)
  rw [List.length_append] at this
  omega
theorem drop_ahead (ws : List (List UInt8)) : ws.drop (aheadP ws).length = behindP ws := by
  have hab := ahead_behind ws
  generalize aheadP ws = A at hab
  generalize behindP ws = C at hab
  rw [← hab, List.drop_left]
theorem mats_more {A : List (List UInt8)} {j : Nat} {x : List UInt8} (h : A[j]? = some x) : (A.take (j + 1)).map matW = (A.take j).map matW ++ [matW x] := by
  obtain ⟨hj, rfl⟩ := List.getElem?_eq_some_iff.1 h
  rw [List.take_succ_eq_append_getElem hj, List.map_append]
  rfl
theorem last_not' {l : List UInt8} {c : UInt8} (h : c ≠ 33) : Lib.hasSuffix (l ++ [c]) [33] = false := by
  unfold Lib.hasSuffix
  apply Bool.eq_false_iff.2
  rw [Ne, List.isSuffixOf_iff_suffix]
  rintro ⟨t, e⟩
  have := congrArg List.getLast? e
  simp at this
  exact h this.symm
theorem last_not {l : List UInt8} {c : UInt8} (h : c ≠ 33) : Lib.trimSuffix (l ++ [c]) [33] = l ++ [c] := by
  have := last_not' (l := l) h
  unfold Lib.trimSuffix
  simp [this]
theorem keep6 {W : World} {b : Nat} {t : TypeId} {x0 x1 x2 x3 x4 x5 : Value} (h : Blk W b rulR' #[x0, x1, x2, x3, x4, x5]) (ht : rulR' ≠ t) (y0 y1 y2 y3 y4 y5 : Value) : ∀ g cs, Blk W g t cs → Blk (set6 W b y0 y1 y2 y3 y4 y5) g t cs :=
  fun g cs k => blk_ne k (heap6 (fun e => h.apart k ht (by first | exact e | exact e.symm)) _ _ _ _ _ _)
def needD (k : Int) : Int := if k = 1 then 0 else if k = 2 then 2 else if k = 3 then 6 else -1
theorem needD_0 (w : World) : (Instr.index 110 (.agg #[.int .i64 (-1), .int .i64 0, .int .i64 2, .int .i64 6]) (.int .i64 0)).run Tryz.prog w = .ok (.int .i64 (-1)) w := by kernel_rfl
theorem needD_1 (w : World) : (Instr.index 110 (.agg #[.int .i64 (-1), .int .i64 0, .int .i64 2, .int .i64 6]) (.int .i64 1)).run Tryz.prog w = .ok (.int .i64 0) w := by kernel_rfl
theorem needD_2 (w : World) : (Instr.index 110 (.agg #[.int .i64 (-1), .int .i64 0, .int .i64 2, .int .i64 6]) (.int .i64 2)).run Tryz.prog w = .ok (.int .i64 2) w := by kernel_rfl
theorem needD_3 (w : World) : (Instr.index 110 (.agg #[.int .i64 (-1), .int .i64 0, .int .i64 2, .int .i64 6]) (.int .i64 3)).run Tryz.prog w = .ok (.int .i64 6) w := by kernel_rfl
theorem kd_four {h : List UInt8} {k : Int} (e : kdU h 4 = k) : k = 0 ∨ k = 1 ∨ k = 2 ∨ k = 3 := by
  subst e
  unfold kdU
  split
  · simp
  · split
    · simp
    · split <;> simp
theorem kd_is1 {h : List UInt8} (e : kdU h 4 = 1) : h = wDrop := by
  unfold kdU at e
  split at e
  · rename_i h1; exact h1.2
  · split at e
    · exact absurd e (by decide)
    · split at e <;> exact absurd e (by decide)
theorem kd_is2 {h : List UInt8} (e : kdU h 4 = 2) : h = wMap := by
  unfold kdU at e
  split at e
  · exact absurd e (by decide)
  · split at e
    · rename_i h1; exact h1.2
    · split at e <;> exact absurd e (by decide)
theorem two_of {l : List (List UInt8)} (h : 2 = l.length) : ∃ a b, l = [a, b] := by
  match l, h with
  | [a, b], _ => exact ⟨a, b, rfl⟩
theorem kd_is3 {h : List UInt8} (e : kdU h 4 = 3) : h = wRoll := by
  unfold kdU at e
  split at e
  · exact absurd e (by decide)
  · split at e
    · exact absurd e (by decide)
    · split at e
      · rename_i h1; exact h1.2
      · exact absurd e (by decide)
theorem six_of {l : List (List UInt8)} (h : 6 = l.length) : ∃ a b c d e f, l = [a, b, c, d, e, f] := by
  match l, h with
  | [a, b, c, d, e, f], _ => exact ⟨a, b, c, d, e, f, rfl⟩
theorem cell?_other5 {W : World} {b B o i : Nat} {u v : Value} (h : b ≠ B) (hc : W.cell? ⟨b, o, none⟩ = some u) : (W.setCell ⟨B, i, none⟩ v).cell? ⟨b, o, none⟩ = some u :=
  cell_k (heap_set (fun e => h (by first | exact e | exact e.symm))) hc
theorem rulD_need {w0 : List UInt8} {ws : List (List UInt8)} {k : Int} (hk : kdU w0 4 = k) (h : ((behindP ws).length : Int) ≠ needD k) : rulD (w0 :: ws) = none := by
  subst hk
  unfold rulD rulDR
  rw [if_neg ?_, if_neg ?_, if_neg ?_]
  · rfl
  all_goals
    rintro ⟨e0, e⟩
    obtain rfl := (show w0 = _ from e0)
    rw [show (behindP ws).length = _ from e] at h
    exact h (by decide)
theorem rdt_drop {W : World} {a : Option Addr} {n c : Nat} {l : List (List UInt8)} (h : RdT W (.slice a n c) l) (i : Nat) (hi : i ≤ n) : ∃ a' n' c', (∀ u, (Instr.slice 58 (.slice a n c) (some (.int .i64 (i : Int))) none none).run Tryz.prog u = .ok (.slice a' n' c') u) ∧ RdT W (.slice a' n' c') (l.drop i) := by
  obtain ⟨a', c', hx, hc, h⟩ := h
  injection hx with e1 e2 e3
  subst e1 e2 e3
  refine ⟨if c = i then a else a.map (·.add (i * 1)), l.length - i, c - i, fun u => ?_, ?_⟩
  · rw [run_slice_l (P := Tryz.prog) u 58 a l.length c (by rw [layT.und, Vec.elem_of layT.und]) .i64 (i : Int) (by omega) (by omega), layT.size u]
    simp [sliced]
  · refine ⟨_, _, by rw [List.length_drop], by rw [List.length_drop]; omega, fun h0 => ?_⟩
    rw [List.length_drop] at h0
    obtain ⟨b, o, rfl, hcs⟩ := h (by omega)
    refine ⟨b, o + i * 1, ?_, fun j u hu => ?_⟩
    · rw [if_neg (by omega)]; simp [Vec.add_at]
    · rw [Nat.add_assoc]
      refine hcs _ u ?_
      have hl : (Vec.cells encT (l.take i)).length = i * 1 := by rw [Vec.cells_len layT.len, List.length_take, Nat.min_eq_left hi]
      rw [← List.take_append_drop i l, Vec.cells_app, List.getElem?_append_right (by omega), hl, Nat.add_sub_cancel_left]
      exact hu
theorem last_cells (l : List UInt8) (d : UInt8) (hsz : l.length ≤ 9000) : ∃ (xb ls : ByteArray) (ll : Nat), B (l ++ [d]) = xb ∧ B l = ls ∧ xb.size = ll + 1 ∧ (∃ h : ll < xb.size, xb[ll] = d) ∧ xb.extract 0 ll = ls ∧ wrap64 (ll : Int) = (ll : Int) ∧ (0 : Int) < (ll : Int) + 1 ∧ (ll : Int) < (ll : Int) + 1 ∧ (ll : Int) ≤ (ll : Int) + 1 ∧ (0 : Int) ≤ (ll : Int) := by
  refine ⟨_, _, l.length, rfl, rfl, ?_, ?_, ?_, IntWalk.wrap64_in _ ⟨by omega, by omega⟩, by omega, by omega, by omega, by omega⟩
  · rw [B_size, List.length_append]; rfl
  · have h : l.length < (B (l ++ [d])).size := by rw [B_size, List.length_append]; exact Nat.lt_succ_self _
    refine ⟨h, ?_⟩
    have h2 : (B (l ++ [d])).data[l.length]'h = d := by simp
    exact h2
  · rw [Lib.extract_eq]
    have : ((B (l ++ [d])).data.toList.drop 0).take (l.length - 0) = l := by simp
    rw [this]
theorem rul_none {w V : World} {kd : Int} {vw vt vl : Value} {mats : List Mat} {mt : ByteArray} {kp : Bool} {ws : List (List UInt8)} (h : RwS w kd vw mats vt mt kp vl V) (hn : rulD ws = none) : ∃ raw : Raw, (∀ a : Array Value, a[2]? = some (.pointer (some ⟨w.heap.size, 0, none⟩)) → a[3]? = some (.bool false) → (results Tryz.f39 a).run Tryz.prog ((((((V.setCell ⟨w.heap.size, 0, none⟩ (.int .i64 0)).setCell ⟨w.heap.size, 1, none⟩ (.slice none 0 0)).setCell ⟨w.heap.size, 2, none⟩ (.slice none 0 0)).setCell ⟨w.heap.size, 3, none⟩ (.string ⟨#[]⟩)).setCell ⟨w.heap.size, 4, none⟩ (.bool false)).setCell ⟨w.heap.size, 5, none⟩ (.slice none 0 0)) = .ok (.tuple #[rawV raw, .bool (rulD ws).isSome]) ((((((V.setCell ⟨w.heap.size, 0, none⟩ (.int .i64 0)).setCell ⟨w.heap.size, 1, none⟩ (.slice none 0 0)).setCell ⟨w.heap.size, 2, none⟩ (.slice none 0 0)).setCell ⟨w.heap.size, 3, none⟩ (.string ⟨#[]⟩)).setCell ⟨w.heap.size, 4, none⟩ (.bool false)).setCell ⟨w.heap.size, 5, none⟩ (.slice none 0 0))) ∧ (∀ x, rulD ws = some x → RrIs ((((((V.setCell ⟨w.heap.size, 0, none⟩ (.int .i64 0)).setCell ⟨w.heap.size, 1, none⟩ (.slice none 0 0)).setCell ⟨w.heap.size, 2, none⟩ (.slice none 0 0)).setCell ⟨w.heap.size, 3, none⟩ (.string ⟨#[]⟩)).setCell ⟨w.heap.size, 4, none⟩ (.bool false)).setCell ⟨w.heap.size, 5, none⟩ (.slice none 0 0)) raw x) ∧ Below w.heap.size w ((((((V.setCell ⟨w.heap.size, 0, none⟩ (.int .i64 0)).setCell ⟨w.heap.size, 1, none⟩ (.slice none 0 0)).setCell ⟨w.heap.size, 2, none⟩ (.slice none 0 0)).setCell ⟨w.heap.size, 3, none⟩ (.string ⟨#[]⟩)).setCell ⟨w.heap.size, 4, none⟩ (.bool false)).setCell ⟨w.heap.size, 5, none⟩ (.slice none 0 0)) :=
  ⟨⟨0, ⟨none, 0, 0⟩, ⟨none, 0, 0⟩, [], false, ⟨none, 0, 0⟩⟩, fun a h2 h3 => by rw [hn]; exact results_rulD _ w.heap.size a false _ _ _ _ _ _ ((((((h.res.set 0 _).set 1 _).set 2 _).set 3 _).set 4 _).set 5 _) h2 h3, fun x hx => (by rw [hn] at hx; cases hx),
    (((((h.bl.setCell (p := ⟨w.heap.size, 0, none⟩) (Nat.le_refl _) _).setCell (p := ⟨w.heap.size, 1, none⟩) (Nat.le_refl _) _).setCell (p := ⟨w.heap.size, 2, none⟩) (Nat.le_refl _) _).setCell (p := ⟨w.heap.size, 3, none⟩) (Nat.le_refl _) _).setCell (p := ⟨w.heap.size, 4, none⟩) (Nat.le_refl _) _).setCell (p := ⟨w.heap.size, 5, none⟩) (Nat.le_refl _) _⟩
set_option maxRecDepth 2000000 in
set_option maxHeartbeats 16000000 in
theorem refRulW_any (v : Value) (w0 : List UInt8) (ws : List (List UInt8)) (w : World) (hv : RdT w v (w0 :: ws)) (hl : ws.length ≤ 9000) (hx : ∀ x ∈ w0 :: ws, x.length ≤ 9000) :
    Calls Tryz.prog 39 #[v] w fun e w' => ∃ raw : Raw, e = .returned (.tuple #[rawV raw, .bool (rulD (w0 :: ws)).isSome]) ∧ (∀ x, rulD (w0 :: ws) = some x → RrIs w' raw x) ∧ Below w.heap.size w w' := by
  obtain ⟨a, c, rfl, hc, hat⟩ := hv.at
  obtain ⟨b, o, rfl, hcs⟩ := hat (by simp)
  obtain ⟨n, hn⟩ : ∃ n, (w0 :: ws).length = n := ⟨_, rfl⟩
  have hn' : n = ws.length + 1 := by rw [← hn]; rfl
  have HV := Lib.hid hv
  have HL := Lib.hid hn'
  have HCS := Lib.hid hcs
  have HX := Lib.hid hx
  have u0 : w.cell? ⟨b, o, none⟩ = some (.string (B w0)) := hcs 0 _ rfl
  have HW0 := Lib.hid (rw_new w)
  obtain ⟨X, hX⟩ : ∃ X, (w.alloc (.cells #[.int .i64 0, .slice none 0 0, .slice none 0 0, .string ⟨#[]⟩, .bool false, .slice none 0 0] 68)).alloc (.cells #[.int .i64 0, .slice none 0 0, .slice none 0 0, .string ⟨#[]⟩, .bool false, .slice none 0 0] 68) = X := ⟨_, rfl⟩
  rw [show (w.alloc (.cells rulZ rulR')).alloc (.cells rulZ rulR') = X from hX] at HW0
  have HXE := Lib.hid hX
  have hq : ∀ l : List UInt8, ((B w0).toList == l) = decide (w0 = l) := fun l => by rw [eq_lit, Bool.eq_iff_iff, beq_iff_eq, decide_eq_true_eq]
  have hq1 : ((B w0).toList == [100, 114, 111, 112]) = decide (w0 = wDrop) := hq wDrop
  have hq2 : ((B w0).toList == [109, 97, 112]) = decide (w0 = wMap) := hq wMap
  have hq3 : ((B w0).toList == [114, 111, 108, 108]) = decide (w0 = wRoll) := hq wRoll
  obtain ⟨s0, hs0⟩ : ∃ t, B w0 = t := ⟨_, rfl⟩
  rw [hs0] at u0 hq1 hq2 hq3
  rw [hn] at HV ⊢
  have g1 := kindD_1
  have g2 := kindD_2
  have g3 := kindD_3
  have hzn : n ≤ 9001 := by omega
  have hn0 : (0 : Int) < (n : Int) := by omega
  have HU0 := Lib.hid u0
  clear hv hc hat hcs hn hn' hX hq hs0 hx hl u0
  go_enter Tryz.func39, Tryz.ntmps39
  go_wp2
  rw [HXE.out]
  clear HXE
  go_loopw [5] (fun i wr => ∃ k : Nat, 1 ≤ k ∧ k ≤ 4 ∧ i = .int .i64 (k : Int) ∧ Hid (RwS w (kdU w0 k) (.slice none 0 0) [] (.slice none 0 0) ⟨#[]⟩ false (.slice none 0 0) wr)) (fun i _ => 4 - (intOf i).toNat)
  case atStart => exact ⟨1, Nat.le_refl _, by decide, rfl, by rw [kdU_one]; exact HW0.out⟩
  case round =>
    obtain ⟨k, hk1, hk, rfl, HK⟩ := hrel
    by_cases hlt : k < 4
    · have hcase : k = 1 ∨ k = 2 ∨ k = 3 := by omega
      have HU := Lib.hid (cell_bl HK.out.bl HU0.out)
      clear hlt hk hk1
      rcases hcase with rfl | rfl | rfl
      · have u0 := HU.out
        have r0 := (HK.out.r.cl 0 _ rfl).1
        have r0f := (HK.out.r.cl 0 _ rfl).2
        have rl := HK.out.r.lt
        by_cases hd : w0 = wDrop
        · rw [decide_eq_true hd] at hq1
          have HN : Hid (∀ V, Below wr.heap.size wr V → RwS w (kdU w0 2) (.slice none 0 0) [] (.slice none 0 0) ⟨#[]⟩ false (.slice none 0 0) (V.setCell ⟨w.heap.size + 1, 0, none⟩ (.int .i64 1))) := fun V hb => by
            rw [kdU_2, if_pos hd]
            exact (HK.out.below hb).setKind 1
          clear HV HL HCS HX HK HU hd HU0 HW0
          go_wp2
          go_quiet (fail)
          go_wp2
          go_roundw
          case rel => exact ⟨2, by omega, by omega, by go_num, HN.out _ (below_q _ _)⟩
          case measure => simp [intOf]
        · rw [decide_eq_false hd] at hq1
          have HN : Hid (∀ V, Below wr.heap.size wr V → RwS w (kdU w0 2) (.slice none 0 0) [] (.slice none 0 0) ⟨#[]⟩ false (.slice none 0 0) V) := fun V hb => by
            rw [kdU_2, if_neg hd]
            exact by have := HK.out.below hb; rwa [kdU_one] at this
          clear HV HL HCS HX HU hd HU0 HW0
          go_wp2
          go_quiet (fail)
          go_wp2
          go_roundw
          case rel => exact ⟨2, by omega, by omega, by go_num, HN.out _ (below_q _ _)⟩
          case measure => simp [intOf]
      · have u0 := HU.out
        have r0 := (HK.out.r.cl 0 _ rfl).1
        have r0f := (HK.out.r.cl 0 _ rfl).2
        have rl := HK.out.r.lt
        by_cases hd : w0 = wMap
        · rw [decide_eq_true hd] at hq2
          have HN : Hid (∀ V, Below wr.heap.size wr V → RwS w (kdU w0 3) (.slice none 0 0) [] (.slice none 0 0) ⟨#[]⟩ false (.slice none 0 0) (V.setCell ⟨w.heap.size + 1, 0, none⟩ (.int .i64 2))) := fun V hb => by
            rw [kdU_3, if_pos hd]
            exact (HK.out.below hb).setKind 2
          clear HV HL HCS HX HK HU hd HU0 HW0
          go_wp2
          go_quiet (fail)
          go_wp2
          go_roundw
          case rel => exact ⟨3, by omega, by omega, by go_num, HN.out _ (below_q _ _)⟩
          case measure => simp [intOf]
        · rw [decide_eq_false hd] at hq2
          have HN : Hid (∀ V, Below wr.heap.size wr V → RwS w (kdU w0 3) (.slice none 0 0) [] (.slice none 0 0) ⟨#[]⟩ false (.slice none 0 0) V) := fun V hb => by
            rw [kdU_3, if_neg hd]
            exact (HK.out.below hb)
          clear HV HL HCS HX HU hd HU0 HW0
          go_wp2
          go_quiet (fail)
          go_wp2
          go_roundw
          case rel => exact ⟨3, by omega, by omega, by go_num, HN.out _ (below_q _ _)⟩
          case measure => simp [intOf]
      · have u0 := HU.out
        have r0 := (HK.out.r.cl 0 _ rfl).1
        have r0f := (HK.out.r.cl 0 _ rfl).2
        have rl := HK.out.r.lt
        by_cases hd : w0 = wRoll
        · rw [decide_eq_true hd] at hq3
          have HN : Hid (∀ V, Below wr.heap.size wr V → RwS w (kdU w0 4) (.slice none 0 0) [] (.slice none 0 0) ⟨#[]⟩ false (.slice none 0 0) (V.setCell ⟨w.heap.size + 1, 0, none⟩ (.int .i64 3))) := fun V hb => by
            rw [kdU_4, if_pos hd]
            exact (HK.out.below hb).setKind 3
          clear HV HL HCS HX HK HU hd HU0 HW0
          go_wp2
          go_quiet (fail)
          go_wp2
          go_roundw
          case rel => exact ⟨4, by omega, by omega, by go_num, HN.out _ (below_q _ _)⟩
          case measure => simp [intOf]
        · rw [decide_eq_false hd] at hq3
          have HN : Hid (∀ V, Below wr.heap.size wr V → RwS w (kdU w0 4) (.slice none 0 0) [] (.slice none 0 0) ⟨#[]⟩ false (.slice none 0 0) V) := fun V hb => by
            rw [kdU_4, if_neg hd]
            exact (HK.out.below hb)
          clear HV HL HCS HX HU hd HU0 HW0
          go_wp2
          go_quiet (fail)
          go_wp2
          go_roundw
          case rel => exact ⟨4, by omega, by omega, by go_num, HN.out _ (below_q _ _)⟩
          case measure => simp [intOf]
    · obtain rfl : k = 4 := by omega
      have HK4 := Lib.hid HK.out
      obtain ⟨kd, hkd⟩ : ∃ kd, kdU w0 4 = kd := ⟨_, rfl⟩
      rw [hkd] at HK4
      have HKD := Lib.hid hkd
      have HAL := Lib.hid (ahead_le ws)
      clear HK hkd hlt hk hk1 HW0 HU0 hq1 hq2 hq3 g1 g2 g3
      rw [show ((4 : Nat) : Int) = (4 : Int) from rfl]
      go_wp2
      go_loopw [6] (fun i wr => ∃ (k : Nat) (a1 : Option Addr) (n1 c1 : Nat), 1 ≤ k ∧ k ≤ (aheadP ws).length + 1 ∧ i = .int .i64 (k : Int) ∧ Hid (RwS w kd (.slice a1 n1 c1) (((aheadP ws).take (k - 1)).map matW) (.slice none 0 0) ⟨#[]⟩ false (.slice none 0 0) wr)) (fun i _ => n - (intOf i).toNat)
      case atStart => exact ⟨1, none, 0, 0, Nat.le_refl _, by omega, rfl, HK4.out⟩
      case round =>
        clear HK4
        obtain ⟨wo, rfl⟩ : ∃ x, x = wr := ⟨_, rfl⟩
        obtain ⟨k, a1, n1, c1, hk1, hk, rfl, HK⟩ := hrel
        have r1 := (HK.out.r.cl 1 _ rfl).1
        have r1f := (HK.out.r.cl 1 _ rfl).2
        have rl := HK.out.r.lt
        by_cases hlt : k < (aheadP ws).length + 1
        · obtain ⟨x, hxA⟩ : ∃ x, (aheadP ws)[k - 1]? = some x := ⟨_, List.getElem?_eq_getElem (by omega)⟩
          have hxw := take_ahead1 hxA
          have hxk : (w0 :: ws)[k]? = some x := by
            obtain ⟨j, rfl⟩ : ∃ j, k = j + 1 := ⟨k - 1, by omega⟩
            simpa using hxw.1
          have q0 : wo.cell? ⟨b, o + k, none⟩ = some (.string (B x)) := cell_bl HK.out.bl (HCS.out k x hxk)
          have hxl := HX.out x (List.mem_of_getElem? hxk)
          have ikn : (k : Int) < (n : Int) := by have h1 := HL.out; have h2 := HAL.out; omega
          have har : ((B x).toList == [45, 62]) = false := by
            rw [eq_lit]
            exact beq_eq_false_iff_ne.2 hxw.2
          have HC := Lib.hid (Y2.refCut_any (B x) 61 wo (small_max (by omega)))
          change Hid (Calls _ _ #[.string (B x), .int .u8 61] wo fun e w' => e = .returned (.tuple #[.string (B (Lib.cut x [61]).1), .string (B (Lib.cut x [61]).2.1), .bool (Lib.cut x [61]).2.2]) ∧ _) at HC
          have HBAD : Hid ((Lib.cut x [61]).2.2 = false → rulD (w0 :: ws) = none) := rulD_bad (ws := w0 :: ws) (List.mem_of_getElem? hxA)
          have HMM := Lib.hid (mats_more hxA)
          have HMW : Hid (matW x = ⟨Lib.trimSuffix (Lib.cut x [61]).1 [33], Lib.hasSuffix (Lib.cut x [61]).1 [33], (Lib.cut x [61]).2.1⟩) := rfl
          have hcl := (cut_len 61 x).1
          have HTL : Hid (((aheadP ws).take (k - 1)).length ≤ 9000) := by show _ ≤ _; rw [List.length_take]; have h1 := HL.out; have h2 := HAL.out; omega
          rw [show k - 1 + 1 = k + 1 - 1 by omega] at HMM
          generalize Lib.cut x [61] = cc at HC HBAD HMW hcl
          obtain ⟨x1, x2, x3⟩ := cc
          simp only at HC HBAD HMW hcl
          have HAP : Hid (∀ (V Wm : World) (y : Mat), Below wo.heap.size wo V → Below V.heap.size V Wm → matW x = y → ∃ a' n' k' W', (∀ ty, (ApR #[66, 66] ty #[.slice a1 n1 c1, .slice (some ⟨Wm.heap.size, 0, none⟩) 1 1]).run Tryz.prog (Wm.alloc (.cells #[.string (B y.name), .bool y.neg, .string (B y.pat)] 56)) = .ok (.slice a' n' k') W') ∧
              RwS w kd (.slice a' n' k') (((aheadP ws).take (k + 1 - 1)).map matW) (.slice none 0 0) ⟨#[]⟩ false (.slice none 0 0) (W'.setCell ⟨w.heap.size + 1, 1, none⟩ (.slice a' n' k')) ∧ Blk W' (w.heap.size + 1) rulR' #[.int .i64 kd, .slice a1 n1 c1, .slice none 0 0, .string ⟨#[]⟩, .bool false, .slice none 0 0]) := fun V Wm y hV hWm hy => by
            have hb := below_step hV (Nat.le_refl _) hWm
            have hk1 := HK.out.below hb
            obtain ⟨a', n', k', W', h1, h2, -, h3, -, h5⟩ := app2 layMr (W := Wm) (Bs := w.heap.size + 2) (v := .slice a1 n1 c1) y #[.string (B y.name), .bool y.neg, .string (B y.pat)] rfl hk1.own (by rw [List.length_map]; have := HTL.out; omega) hk1.sz
            rw [← hy] at h2
            have := RwS.more (V := Wm) HK.out hb h2 h3 h5
            rw [← HMM.out] at this
            exact ⟨a', n', k', W', h1, this⟩
          obtain ⟨xs, hxs⟩ : ∃ t, B x = t := ⟨_, rfl⟩
          simp only [hxs] at q0 har HC
          clear hxA hxw hxk hxs HMM HTL HCS HX HV
          go_wp2_with fail
          refine HC.out.mono ?_
          rintro e w1 ⟨rfl, q, hw1⟩
          clear HC
          have HVB : Hid (Below wo.heap.size wo w1) := by rw [hw1]; exact below_q _ _
          have HK1 := Lib.hid (HK.out.below HVB.out)
          clear hw1 r1 r1f rl q0
          have r1 := (HK1.out.r.cl 1 _ rfl).1
          have rl := HK1.out.r.lt
          cases x3 with
          | false =>
            have HN := HBAD.out rfl
            have k0 := (HK1.out.res.cl 0 _ rfl).1
            have k0f := (HK1.out.res.cl 0 _ rfl).2
            have k1 := (HK1.out.res.cl 1 _ rfl).1
            have k1f := (HK1.out.res.cl 1 _ rfl).2
            have k2 := (HK1.out.res.cl 2 _ rfl).1
            have k2f := (HK1.out.res.cl 2 _ rfl).2
            have k3 := (HK1.out.res.cl 3 _ rfl).1
            have k3f := (HK1.out.res.cl 3 _ rfl).2
            have k4 := (HK1.out.res.cl 4 _ rfl).1
            have k4f := (HK1.out.res.cl 4 _ rfl).2
            have k5 := (HK1.out.res.cl 5 _ rfl).1
            have k5f := (HK1.out.res.cl 5 _ rfl).2
            have HF := Lib.hid (rul_none HK1.out HN)
            clear HBAD HAP HMW hcl HK HK1 HN
            go_wp2
            obtain ⟨raw, h1, h2, h3⟩ := HF.out
            exact bodyPost_ret (h1 _ rfl rfl) rfl ⟨raw, rfl, h2, h3⟩
          | true =>
            clear HBAD
            rcases List.eq_nil_or_concat x1 with rfl | ⟨l, d, rfl⟩
            · obtain ⟨a', n', k', W', h1, h2, h3⟩ := HAP.out w1 (w1.alloc (.cells #[.string (B []), .bool false, .string (B x2)] 56)) ⟨[], false, x2⟩ HVB.out ((Below.refl _ w1).alloc (Nat.le_refl _) _) (by rw [HMW.out]; rfl)
              have z1 := (h3.cl 1 _ rfl).1
              have z1f := (h3.cl 1 _ rfl).2
              have HN := Lib.hid h2
              simp only [World.size_alloc] at h1
              clear HAP HMW hcl HK HK1 h2 h3 HVB
              go_wp2
              go_roundw
              case rel => exact ⟨k + 1, a', n', k', by omega, by omega, by go_num, HN.out⟩
              case measure => have := HL.out; have := HAL.out; simp [intOf]; omega
            · rw [List.concat_eq_append] at HMW hcl ⊢
              have HHS : Hid (matW x = ⟨if d = 33 then l else l ++ [d], decide (d = 33), x2⟩) := by
                by_cases hc : d = 33
                · subst hc
                  rw [if_pos rfl]
                  show _ = _
                  rw [HMW.out, suf_trim, suf_one]
                  rfl
                · rw [if_neg hc, decide_eq_false hc]
                  show _ = _
                  rw [HMW.out, last_not hc, last_not' hc]
              have hsz : l.length ≤ 9000 := by rw [List.length_append] at hcl; omega
              obtain ⟨xb, ls, ll, hxb, hls, e1, ⟨e2l, e2⟩, e3, e4, e5, e6, e7, e8⟩ := last_cells l d hsz
              have HXB := Lib.hid hxb
              have HLS := Lib.hid hls
              rw [hxb]
              by_cases hc : d = 33
              · subst hc
                have HNW : Hid (matW x = ⟨l, true, x2⟩) := HHS.out
                obtain ⟨a', n', k', W', h1, h2, h3⟩ := HAP.out w1 (w1.alloc (.cells #[.string ls, .bool true, .string (B x2)] 56)) ⟨l, true, x2⟩ HVB.out ((Below.refl _ w1).alloc (Nat.le_refl _) _) HNW.out
                rw [HLS.out] at h1
                have z1 := (h3.cl 1 _ rfl).1
                have z1f := (h3.cl 1 _ rfl).2
                have HN := Lib.hid h2
                simp only [World.size_alloc] at h1
                clear HAP HMW hcl HK HK1 h2 h3 HVB HHS HNW hls hxb HXB HLS
                go_wp2
                go_roundw
                case rel => exact ⟨k + 1, a', n', k', by omega, by omega, by go_num, HN.out⟩
                case measure => have := HL.out; have := HAL.out; simp [intOf]; omega
              · have hc' : ¬ (d.toNat : Int) = 33 := fun e => hc (UInt8.toNat_inj.1 (by have h33 : (33 : UInt8).toNat = 33 := rfl; omega))
                have HNW : Hid (matW x = ⟨l ++ [d], false, x2⟩) := by
                  have h := HHS.out
                  rw [if_neg hc, decide_eq_false hc] at h
                  exact h
                obtain ⟨a', n', k', W', h1, h2, h3⟩ := HAP.out w1 (w1.alloc (.cells #[.string xb, .bool false, .string (B x2)] 56)) ⟨l ++ [d], false, x2⟩ HVB.out ((Below.refl _ w1).alloc (Nat.le_refl _) _) HNW.out
                rw [HXB.out] at h1
                have z1 := (h3.cl 1 _ rfl).1
                have z1f := (h3.cl 1 _ rfl).2
                have HN := Lib.hid h2
                simp only [World.size_alloc] at h1
                clear HAP HMW hcl HK HK1 h2 h3 HVB HHS HNW hls hxb HXB HLS e3 hc
                go_wp2
                go_roundw
                case rel => exact ⟨k + 1, a', n', k', by omega, by omega, by go_num, HN.out⟩
                case measure => have := HL.out; have := HAL.out; simp [intOf]; omega
        · have HKA : Hid (k = (aheadP ws).length + 1) := by show _ = _; omega
          have hkn : k ≤ n := by have h1 := HL.out; have h2 := HAL.out; omega
          have HK2 : Hid (RwS w kd (.slice a1 n1 c1) ((aheadP ws).map matW) (.slice none 0 0) ⟨#[]⟩ false (.slice none 0 0) wo) := by
            have h := HK.out
            rw [HKA.out, Nat.add_sub_cancel, List.take_length] at h
            exact h
          have har : k < n → wo.cell? ⟨b, o + k, none⟩ = some (.string (B wArrow)) := fun h => by
            have h1 := HL.out
            have h2 := HKA.out
            refine cell_bl HK2.out.bl (HCS.out _ wArrow ?_)
            rw [h2]
            simpa using at_behind (ws := ws) (by omega)
          obtain ⟨ra, rn, rc, hdr, hrd⟩ := rdt_drop HV.out k hkn
          have hrd : RdT w (.slice ra rn rc) (behindP ws) := by
            rw [HKA.out, List.drop_succ_cons, drop_ahead] at hrd
            exact hrd
          have HRD := Lib.hid hrd
          have HRN : Hid (rn = (behindP ws).length) := by
            obtain ⟨_, _, e, _, _⟩ := hrd
            injection e with e1 e2 e3
          have HLT : Hid (k < n → 0 < rn) := fun h => by
            have h1 := HL.out
            have h2 := HKA.out
            have h3 := congrArg List.length (ahead_behind ws)
            rw [List.length_append] at h3
            have h4 := HRN.out
            omega
          have HGE : Hid (¬ k < n → rn = 0) := fun h => by
            have h1 := HL.out
            have h2 := HKA.out
            have h3 := congrArg List.length (ahead_behind ws)
            rw [List.length_append] at h3
            have h4 := HRN.out
            omega
          have HM : Hid ((rn : Int) ≠ needD kd → rulD (w0 :: ws) = none) := fun h => rulD_need HKD.out (by rw [← HRN.out]; exact h)
          have HFM : Hid (FitM ((aheadP ws).map matW)) := fit_mats (fun y hy => by
            have h1 := HX.out y (List.mem_cons_of_mem _ (by rw [← ahead_behind ws]; exact List.mem_append_left _ hy))
            omega)
          have HN1 : Hid (n1 ≤ 100000) := by
            have h1 := es_len (h := ⟨a1, n1, c1⟩) (Vec.Es.rd HK2.out.own.es)
            have h2 : n1 = ((aheadP ws).map matW).length := h1
            rw [List.length_map] at h2
            have h3 := HL.out
            have h4 := HAL.out
            show _ ≤ _
            omega
          have g0 := needD_0
          have g1 := needD_1
          have g2 := needD_2
          have g3 := needD_3
          have hkd := kd_four HKD.out
          have hcond : (∃ s, k < n ∧ wo.cell? ⟨b, o + k, none⟩ = some (.string s) ∧ (s.toList == [45, 62]) = true) ∨ ¬ k < n := by
            by_cases h : k < n
            · exact .inl ⟨_, h, har h, by rw [eq_lit]; rfl⟩
            · exact .inr h
          clear HK hk hk1 hlt hrd HCS HL HAL HV HKA har
          have k0 := (HK2.out.res.cl 0 _ rfl).1
          have k0f := (HK2.out.res.cl 0 _ rfl).2
          have k1 := (HK2.out.res.cl 1 _ rfl).1
          have k1f := (HK2.out.res.cl 1 _ rfl).2
          have k2 := (HK2.out.res.cl 2 _ rfl).1
          have k2f := (HK2.out.res.cl 2 _ rfl).2
          have k3 := (HK2.out.res.cl 3 _ rfl).1
          have k3f := (HK2.out.res.cl 3 _ rfl).2
          have k4 := (HK2.out.res.cl 4 _ rfl).1
          have k4f := (HK2.out.res.cl 4 _ rfl).2
          have k5 := (HK2.out.res.cl 5 _ rfl).1
          have k5f := (HK2.out.res.cl 5 _ rfl).2
          have r0 := (HK2.out.r.cl 0 _ rfl).1
          rcases hcond with ⟨s, hlt, q0, har⟩ | hlt
          · have ikn : (k : Int) < (n : Int) := by omega
            have hrn : (0 : Int) < (rn : Int) := by have := HLT.out hlt; omega
            rcases hkd with rfl | rfl | rfl | rfl
            · have ine : ¬ (rn : Int) = -1 := by omega
              have HN := HM.out ine
              have HF := Lib.hid (rul_none HK2.out HN)
              clear HM HLT HGE HRD HRN HK2 HKD HX HN
              go_wp2
              obtain ⟨raw, h1, h2, h3⟩ := HF.out
              exact bodyPost_ret (h1 _ rfl rfl) rfl ⟨raw, rfl, h2, h3⟩
            · have ine : ¬ (rn : Int) = 0 := by omega
              have HN := HM.out ine
              have HF := Lib.hid (rul_none HK2.out HN)
              clear HM HLT HGE HRD HRN HK2 HKD HX HN
              go_wp2
              obtain ⟨raw, h1, h2, h3⟩ := HF.out
              exact bodyPost_ret (h1 _ rfl rfl) rfl ⟨raw, rfl, h2, h3⟩
            · by_cases ine : (rn : Int) = 2
              · obtain rfl : rn = 2 := by omega
                obtain ⟨x0, x1, hb2⟩ := two_of HRN.out
                have HB2 := Lib.hid hb2
                have HRW : Hid (rulD (w0 :: ws) = if formed ⟨2, (aheadP ws).map matW, spl 44 x1, [], false, []⟩ = true then some ⟨2, (aheadP ws).map matW, spl 44 x1, [], false, []⟩ else none) := by
                  show _ = _
                  unfold rulD rulDR
                  rw [if_neg (fun e => absurd (e.2.symm.trans HRN.out.symm) (by decide)), if_pos ⟨kd_is2 HKD.out, HRN.out.symm⟩, filt, List.tail_cons, HB2.out]
                  rfl
                obtain ⟨a', c', e, hc', hat⟩ := RdT.at HRD.out
                injection e with e1 e2 e3
                subst e1 e3
                obtain ⟨rb, ro, rfl, hcs⟩ := hat (by omega)
                have q1 : wo.cell? ⟨rb, ro + 1, none⟩ = some (.string (B x1)) := cell_bl HK2.out.bl (hcs 1 x1 (by rw [HB2.out]; rfl))
                have hxl : x1.length ≤ 9000 := HX.out x1 (List.mem_cons_of_mem _ (by rw [← ahead_behind ws]; exact List.mem_append_right _ (by rw [HB2.out]; simp)))
                have HS := Lib.hid (refSplitR_any x1 44 wo hxl)
                change Hid (Calls _ _ #[.string (B x1), .int .u8 44] wo _) at HS
                have HFT : Hid (FitT (spl 44 x1)) := fun p hp => Nat.le_trans (spl_le hp) (Nat.le_trans hxl (by decide))
                have hmany := spl_many 44 x1
                have HNT : Hid ((spl 44 x1).length ≤ 100000) := by show _ ≤ _; omega
                obtain ⟨s1, hs1⟩ : ∃ t, B x1 = t := ⟨_, rfl⟩
                simp only [hs1] at q1 HS
                clear k0 k0f k1 k1f k2 k2f k3 k3f k4 k4f k5 k5f HM HLT HGE HRD HRN HX HB2 hb2 hat hcs hc' hmany hs1 hxl e2 HKD
                go_wp2_with fail
                refine HS.out.mono ?_
                rintro e w5 ⟨a5, n5, c5, rfl, ho5, hb5⟩
                have HK5 := Lib.hid (HK2.out.below hb5)
                have HN5 : Hid (n5 ≤ 100000) := by
                  have h1 : n5 = (spl 44 x1).length := es_len (h := ⟨a5, n5, c5⟩) ho5.es.rd
                  have h2 := HNT.out
                  show _ ≤ _
                  omega
                have HV : Hid (RwS w 2 (.slice a1 n1 c1) ((aheadP ws).map matW) (.slice a5 n5 c5) ⟨#[]⟩ false (.slice none 0 0) (w5.setCell ⟨w.heap.size + 1, 2, none⟩ (.slice a5 n5 c5))) := HK5.out.setTo _
                have HTO : Hid (EsT (w5.setCell ⟨w.heap.size + 1, 2, none⟩ (.slice a5 n5 c5)) (.slice a5 n5 c5) (spl 44 x1)) := Vec.Es.keep ho5.es (fun g cs k => k.other (fun e => HK5.out.r.apart k (by decide) (by first | exact e | exact e.symm)) _)
                have HLB : Hid (EsT (w5.setCell ⟨w.heap.size + 1, 2, none⟩ (.slice a5 n5 c5)) (.slice none 0 0) []) := Vec.Es.nil _ _ _
                clear r0 q1 HS HNT ho5 hb5 HK2
                have r0 := (HK5.out.r.cl 0 _ rfl).1
                have r2f := (HK5.out.r.cl 2 _ rfl).2
                have r2 := (HK5.out.r.cl 2 _ rfl).1
                clear rl
                have rl := HK5.out.r.lt
                go_wp2
                obtain ⟨V, hV⟩ : ∃ V, w5.setCell ⟨w.heap.size + 1, 2, none⟩ (.slice a5 n5 c5) = V := ⟨_, rfl⟩
                rw [hV] at HV HTO HLB ⊢
                clear hV r0 r2 r2f rl ikn ine hlt hrn
                clear HK5
                have HEM : Hid (EsMr V (.slice a1 n1 c1) ((aheadP ws).map matW)) := HV.out.own.es
                have HRI : Hid (RawRd V ⟨2, ⟨a1, n1, c1⟩, ⟨a5, n5, c5⟩, [], false, ⟨none, 0, 0⟩⟩ ⟨2, (aheadP ws).map matW, spl 44 x1, [], false, []⟩) := ⟨rfl, HEM.out.rd, HTO.out.rd, rfl, rfl, HLB.out.rd⟩
                have HFO := Lib.hid (refForm_any _ _ _ _ _ _ _ _ _ _ _ _ ⟨2, (aheadP ws).map matW, spl 44 x1, [], false, []⟩ V.drew (HRI.out.below (below_dr0 V)) HFM.out HFT.out fit_nil (Nat.zero_le _) HN1.out HN5.out (by decide))
                change Hid (Calls _ _ #[.agg #[.int .i64 2, .slice a1 n1 c1, .slice a5 n5 c5, .string ⟨#[]⟩, .bool false, .slice none 0 0]] _ _) at HFO
                obtain ⟨fo, hfo⟩ : ∃ fo, refForm ⟨2, (aheadP ws).map matW, spl 44 x1, [], false, []⟩ = fo := ⟨_, rfl⟩
                have HRW2 : Hid (rulD (w0 :: ws) = if fo = true then some ⟨2, (aheadP ws).map matW, spl 44 x1, [], false, []⟩ else none) := by rw [← hfo, form_same]; exact HRW.out
                have HRN : Hid ((rulD (w0 :: ws)).isSome = fo) := by show _ = _; rw [HRW2.out]; cases fo <;> rfl
                have HRR : Hid (∀ W1 W', Below V.heap.size V W1 → (∀ g cs, Blk W1 g matR' cs → Blk W' g matR' cs) → (∀ g cs, Blk W1 g 9 cs → Blk W' g 9 cs) → ∀ r, rulD (w0 :: ws) = some r → RrIs W' ⟨2, ⟨a1, n1, c1⟩, ⟨a5, n5, c5⟩, [], false, ⟨none, 0, 0⟩⟩ r) := fun W1 W' hb k1 k2 r h => by
                  rw [HRW2.out] at h
                  split at h
                  · injection h with h
                    subst h
                    exact ⟨rfl, (Vec.Es.keep (Vec.Es.below HEM.out hb) k1), (Vec.Es.keep (Vec.Es.below HTO.out hb) k2), rfl, rfl, (Vec.Es.keep (Vec.Es.below HLB.out hb) k2)⟩
                  · cases h
                have HRR : Hid (∀ W1 {W'}, Below V.heap.size V W1 → (∀ g cs, Blk W1 g matR' cs → Blk W' g matR' cs) → (∀ g cs, Blk W1 g 9 cs → Blk W' g 9 cs) → ∀ r, rulD (w0 :: ws) = some r → RrIs W' ⟨2, ⟨a1, n1, c1⟩, ⟨a5, n5, c5⟩, [], false, ⟨none, 0, 0⟩⟩ r) := fun W1 W' => HRR.out W1 W'
                rw [hfo] at HFO
                obtain ⟨v0, v1, v2, v3, v4, v5⟩ := cells6 HV.out.r
                have hlt := HV.out.r.lt
                have HKEEP : Hid (∀ w' : World, (∀ bx, bx ≠ w.heap.size → bx < V.heap.size → w'.heap[bx]? = V.heap[bx]?) → w'.cell? ⟨w.heap.size + 1, 0, none⟩ = some (.int .i64 2) ∧ w'.cell? ⟨w.heap.size + 1, 1, none⟩ = some (.slice a1 n1 c1) ∧ w'.cell? ⟨w.heap.size + 1, 2, none⟩ = some (.slice a5 n5 c5) ∧ w'.cell? ⟨w.heap.size + 1, 3, none⟩ = some (.string ⟨#[]⟩) ∧ w'.cell? ⟨w.heap.size + 1, 4, none⟩ = some (.bool false) ∧ w'.cell? ⟨w.heap.size + 1, 5, none⟩ = some (.slice none 0 0)) := fun w' h =>
                  have hr := h (w.heap.size + 1) (by omega) hlt
                  ⟨cell_k hr v0, cell_k hr v1, cell_k hr v2, cell_k hr v3, cell_k hr v4, cell_k hr v5⟩
                clear hfo v0 v1 v2 v3 v4 v5 hlt HRI HRW HRW2 HEM
                refine wp_region_held_drew (S := (fun w' => w'.cell? ⟨w.heap.size + 1, 0, none⟩ = some (.int .i64 2) ∧ w'.cell? ⟨w.heap.size + 1, 1, none⟩ = some (.slice a1 n1 c1) ∧ w'.cell? ⟨w.heap.size + 1, 2, none⟩ = some (.slice a5 n5 c5) ∧ w'.cell? ⟨w.heap.size + 1, 3, none⟩ = some (.string ⟨#[]⟩) ∧ w'.cell? ⟨w.heap.size + 1, 4, none⟩ = some (.bool false) ∧ w'.cell? ⟨w.heap.size + 1, 5, none⟩ = some (.slice none 0 0))) (by kernel_rfl) (HKEEP.out _ (fun _ _ _ => rfl)) (fun hHeld => ?_)
                refine take_d (i := 0) (d := 131) (v := .agg #[.int .i64 2, .slice a1 n1 c1, .slice a5 n5 c5, .string ⟨#[]⟩, .bool false, .slice none 0 0]) rfl rfl (by kernel_rfl) (by kernel_rfl) (by kernel_rfl) (fun _ _ _ h => h) (Or.inl ⟨by kernel_rfl, ?_⟩) (by assumption) ?_
                · intro wS hSw
                  obtain ⟨hS0, hS1, hS2, hS3, hS4, hS5⟩ := hSw
                  go_simp
                simp only [Act.put, List.setIfInBounds_toArray, List.set_cons_zero, List.set_cons_succ]
                refine take_d (i := 1) (d := 132) (v := .agg #[.int .i64 2, .slice a1 n1 c1, .slice a5 n5 c5, .string ⟨#[]⟩, .bool false, .slice none 0 0]) rfl rfl (by kernel_rfl) (by kernel_rfl) (by kernel_rfl) (fun _ _ _ h => h) (Or.inl ⟨by kernel_rfl, ?_⟩) (by assumption) ?_
                · intro wS hSw
                  obtain ⟨hS0, hS1, hS2, hS3, hS4, hS5⟩ := hSw
                  go_simp
                simp only [Act.put, List.setIfInBounds_toArray, List.set_cons_zero, List.set_cons_succ]
                refine wpAnyH_ready (rs := [2]) (by kernel_rfl) (by simp) ?_
                refine AllReadyH.cons rfl (fun K hK => ?_) ?_
                · go_simp
                  go_wp2_with (go_at_call 24; refine HFO.out.mono ?_; rintro e w4 ⟨rfl, hb4⟩)
                  have HB4 : Hid (Below V.heap.size V w4) := below_undr hb4
                  have HP4 := Lib.hid (HV.out.res.below HB4.out HV.out.res.lt)
                  have pf : ∀ i, w4.frozen? ⟨w.heap.size, i, none⟩ = false := fun i => Lib.frozen_of_heap HP4.out i
                  have pf0 := pf 0
                  have pf1 := pf 1
                  have pf2 := pf 2
                  have pf3 := pf 3
                  have pf4 := pf 4
                  have pf5 := pf 5
                  obtain ⟨p0, p1, p2, p3, p4, p5⟩ := cells6 HP4.out
                  clear hb4 pf
                  refine hK.out _ _ ?_ (fun hHeld => ?_)
                  · exact HKEEP.out _ (fun bx _ hlt => HB4.out.block bx hlt)
                  clear hK K
                  refine wpAnyH_ready (rs := [3]) (by kernel_rfl) (by simp) ?_
                  refine AllReadyH.cons rfl (fun K hK => ?_) ?_
                  · go_simp
                    refine hK.out _ _ ?_ (fun hHeld => ?_)
                    · exact HKEEP.out _ (fun bx hx hlt => (heap6 hx _ _ _ _ _ _).trans (HB4.out.block bx hlt))
                    clear hK K
                    refine take_d (i := 4) (d := 3) (v := .bool fo) rfl rfl (by kernel_rfl) (by kernel_rfl) (by kernel_rfl) (fun _ _ _ h => h) (Or.inl ⟨by kernel_rfl, ?_⟩) (by assumption) ?_
                    · intro wS hSw
                      obtain ⟨hS0, hS1, hS2, hS3, hS4, hS5⟩ := hSw
                      go_simp
                    simp only [Act.put, List.setIfInBounds_toArray, List.set_cons_zero, List.set_cons_succ]
                    refine wpAnyH_done (by kernel_rfl) ?_ _
                    go_wp2
                    refine bodyPost_ret (results_rulD _ w.heap.size _ _ _ _ _ _ _ _ (blk6 HP4.out _ _ _ _ _ _) rfl rfl) rfl ?_
                    exact ⟨⟨2, ⟨a1, n1, c1⟩, ⟨a5, n5, c5⟩, [], false, ⟨none, 0, 0⟩⟩, by rw [HRN.out]; rfl, fun r h => HRR.out _ HB4.out (keep6 HP4.out (by decide) _ _ _ _ _ _) (keep6 HP4.out (by decide) _ _ _ _ _ _) r h, below6 (below_step HV.out.bl (Nat.le_refl _) HB4.out) (Nat.le_refl _) _ _ _ _ _ _⟩
                  exact AllReadyH.nil
                exact AllReadyH.nil
              · have HN := HM.out ine
                have HF := Lib.hid (rul_none HK2.out HN)
                clear HM HLT HGE HRD HRN HK2 HKD HX HN
                go_wp2
                obtain ⟨raw, h1, h2, h3⟩ := HF.out
                exact bodyPost_ret (h1 _ rfl rfl) rfl ⟨raw, rfl, h2, h3⟩
            · by_cases ine : (rn : Int) = 6
              · obtain rfl : rn = 6 := by omega
                obtain ⟨x0, x1, x2, x3, x4, x5, hb6⟩ := six_of HRN.out
                have HB6 := Lib.hid hb6
                obtain ⟨a', c', e, hc', hat⟩ := RdT.at HRD.out
                injection e with e1 e2 e3
                subst e1 e3
                obtain ⟨rb, ro, rfl, hcs⟩ := hat (by omega)
                have HCR : Hid (∀ (j : Nat) (y : List UInt8), (behindP ws)[j]? = some y → w.cell? ⟨rb, ro + j, none⟩ = some (.string (B y))) := hcs
                have q1 : wo.cell? ⟨rb, ro + 1, none⟩ = some (.string (B x1)) := cell_bl HK2.out.bl (hcs 1 x1 (by rw [HB6.out]; rfl))
                have HX5 : Hid (∀ y ∈ [x0, x1, x2, x3, x4, x5], y.length ≤ 9000) := fun y hy => HX.out y (List.mem_cons_of_mem _ (by rw [← ahead_behind ws]; exact List.mem_append_right _ (by rw [HB6.out]; exact hy)))
                have hxl : x1.length ≤ 9000 := HX5.out x1 (by simp)
                have HS := Lib.hid (refSplitR_any x1 44 wo hxl)
                change Hid (Calls _ _ #[.string (B x1), .int .u8 44] wo _) at HS
                have HFT : Hid (FitT (spl 44 x1)) := fun p hp => Nat.le_trans (spl_le hp) (Nat.le_trans hxl (by decide))
                have hmany := spl_many 44 x1
                have HNT : Hid ((spl 44 x1).length ≤ 100000) := by show _ ≤ _; omega
                have hq2 : ((B x2).toList == [97, 115]) = decide (x2 = wAs) := by rw [eq_lit, Bool.eq_iff_iff, beq_iff_eq, decide_eq_true_eq]; rfl
                have hq4 : ((B x4).toList == [107, 101, 101, 112]) = decide (x4 = wKeep) := by rw [eq_lit, Bool.eq_iff_iff, beq_iff_eq, decide_eq_true_eq]; rfl
                have hq4l : ((B x4).toList == [108, 101, 115, 115]) = decide (x4 = wLess) := by rw [eq_lit, Bool.eq_iff_iff, beq_iff_eq, decide_eq_true_eq]; rfl
                have HD6 : Hid (rulD (w0 :: ws) = (if x2 = wAs ∧ (x4 = wKeep ∨ x4 = wLess) then some (⟨3, (aheadP ws).map matW, spl 44 x1, x3, x4 == wKeep, labsD x5⟩ : Rul) else none).filter formed) := by
                  show _ = _
                  unfold rulD rulDR
                  rw [if_neg (fun e => absurd (e.2.symm.trans HRN.out.symm) (by decide)), if_neg (fun e => absurd (e.2.symm.trans HRN.out.symm) (by decide)), if_pos ⟨kd_is3 HKD.out, HRN.out.symm⟩, List.tail_cons, HB6.out]
                  rfl
                have t2 : w.cell? ⟨rb, ro + 2, none⟩ = some (.string (B x2)) := hcs 2 x2 (by rw [HB6.out]; rfl)
                have t3 : w.cell? ⟨rb, ro + 3, none⟩ = some (.string (B x3)) := hcs 3 x3 (by rw [HB6.out]; rfl)
                have t4 : w.cell? ⟨rb, ro + 4, none⟩ = some (.string (B x4)) := hcs 4 x4 (by rw [HB6.out]; rfl)
                have t5 : w.cell? ⟨rb, ro + 5, none⟩ = some (.string (B x5)) := hcs 5 x5 (by rw [HB6.out]; rfl)
                have HT2 := Lib.hid t2
                have HT3 := Lib.hid t3
                have HT4 := Lib.hid t4
                have HT5 := Lib.hid t5
                obtain ⟨s1, hs1⟩ : ∃ t, B x1 = t := ⟨_, rfl⟩
                simp only [hs1] at q1 HS
                clear k0 k0f k1 k1f k2 k2f k3 k3f k4 k4f k5 k5f HM HLT HGE HRD HRN HX HB6 hb6 hat hcs hc' hmany hs1 hxl e2 HKD HCR t2 t3 t4 t5
                go_wp2_with fail
                refine HS.out.mono ?_
                rintro e w5 ⟨a5, n5, c5, rfl, ho5, hb5⟩
                have HK5 := Lib.hid (HK2.out.below hb5)
                have HN5 : Hid (n5 ≤ 100000) := by
                  have h1 : n5 = (spl 44 x1).length := es_len (h := ⟨a5, n5, c5⟩) ho5.es.rd
                  have h2 := HNT.out
                  show _ ≤ _
                  omega
                have HV5 : Hid (RwS w 3 (.slice a1 n1 c1) ((aheadP ws).map matW) (.slice a5 n5 c5) ⟨#[]⟩ false (.slice none 0 0) (w5.setCell ⟨w.heap.size + 1, 2, none⟩ (.slice a5 n5 c5))) := HK5.out.setTo _
                have HTO5 : Hid (EsT (w5.setCell ⟨w.heap.size + 1, 2, none⟩ (.slice a5 n5 c5)) (.slice a5 n5 c5) (spl 44 x1)) := Vec.Es.keep ho5.es (fun g cs k => k.other (fun e => HK5.out.r.apart k (by decide) (by first | exact e | exact e.symm)) _)
                clear r0 q1 HS HNT ho5 hb5 HK2
                have r0 := (HK5.out.r.cl 0 _ rfl).1
                have r2f := (HK5.out.r.cl 2 _ rfl).2
                have r2 := (HK5.out.r.cl 2 _ rfl).1
                clear rl
                have rl := HK5.out.r.lt
                have hrb : rb < w.heap.size := lt_of_cell HT2.out
                have hne : rb ≠ w.heap.size + 1 := by omega
                have q2 : w5.cell? ⟨rb, ro + 2, none⟩ = some (.string (B x2)) := cell_bl HK5.out.bl HT2.out
                have q4 : w5.cell? ⟨rb, ro + 4, none⟩ = some (.string (B x4)) := cell_bl HK5.out.bl HT4.out
                have ha2 := cell?_other5 (v := Value.slice a5 n5 c5) (i := 2) hne q2
                have ha4 := cell?_other5 (v := Value.slice a5 n5 c5) (i := 2) hne q4
                obtain ⟨s2, hs2⟩ : ∃ t, B x2 = t := ⟨_, rfl⟩
                obtain ⟨s4, hs4⟩ : ∃ t, B x4 = t := ⟨_, rfl⟩
                rw [hs2] at q2 ha2 hq2
                rw [hs4] at q4 ha4 hq4 hq4l
                clear hs2 hs4
                by_cases hA : x2 = wAs
                · rw [decide_eq_true hA] at hq2
                  by_cases hK : x4 = wKeep
                  · rw [decide_eq_true hK] at hq4
                    have HKP : Hid ((x4 == wKeep) = true) := by show _ = _; rw [hK]; decide
                    have HRW : Hid (rulD (w0 :: ws) = if formed ⟨3, (aheadP ws).map matW, spl 44 x1, x3, true, labsD x5⟩ = true then some ⟨3, (aheadP ws).map matW, spl 44 x1, x3, true, labsD x5⟩ else none) := by
                      show _ = _
                      rw [HD6.out, if_pos ⟨hA, .inl hK⟩, HKP.out, filt]
                    have HLI := fun W => Lib.hid (refList_any x5 W (HX5.out x5 (by simp)))
                    have HX3 : Hid (x3.length ≤ 9000) := HX5.out x3 (by simp)
                    have HX55 : Hid (x5.length ≤ 9000) := HX5.out x5 (by simp)
                    obtain ⟨s3, hs3⟩ : ∃ t, B x3 = t := ⟨_, rfl⟩
                    have q3 : w5.cell? ⟨rb, ro + 3, none⟩ = some (.string s3) := by rw [← hs3]; exact cell_bl HK5.out.bl HT3.out
                    have HS3 := Lib.hid hs3
                    obtain ⟨s5, hs5⟩ : ∃ t, B x5 = t := ⟨_, rfl⟩
                    have q5 : w5.cell? ⟨rb, ro + 5, none⟩ = some (.string s5) := by rw [← hs5]; exact cell_bl HK5.out.bl HT5.out
                    simp only [hs5] at HLI
                    have ha3 := cell?_other5 (v := Value.slice a5 n5 c5) (i := 2) hne q3
                    have hb4 := cell?_other5 (v := Value.string s3) (i := 3) hne ha4
                    have ha5 := cell?_other5 (v := Value.bool true) (i := 4) hne (cell?_other5 (v := Value.string s3) (i := 3) hne (cell?_other5 (v := Value.slice a5 n5 c5) (i := 2) hne q5))
                    have r3f := (HK5.out.r.cl 3 _ rfl).2
                    have r4f := (HK5.out.r.cl 4 _ rfl).2
                    have r3 := (HK5.out.r.cl 3 _ rfl).1
                    have r4 := (HK5.out.r.cl 4 _ rfl).1
                    clear HD6 HT2 HT3 HT4 HT5 HX5 hs3 hs5 hA hK
                    go_wp2_with fail
                    refine (HLI _).out.mono ?_
                    rintro e w6 ⟨a6, n6, c6, rfl, he6, hb6⟩
                    have HA7 : Hid (RwS w 3 (.slice a1 n1 c1) ((aheadP ws).map matW) (.slice a5 n5 c5) s3 true (.slice none 0 0) w6) := (((HK5.out.setTo _).setMet s3).setKeep true).below hb6
                    have HV : Hid (RwS w 3 (.slice a1 n1 c1) ((aheadP ws).map matW) (.slice a5 n5 c5) s3 true (.slice a6 n6 c6) (w6.setCell ⟨w.heap.size + 1, 5, none⟩ (.slice a6 n6 c6))) := HA7.out.setLabs _
                    have HTO : Hid (EsT (w6.setCell ⟨w.heap.size + 1, 5, none⟩ (.slice a6 n6 c6)) (.slice a5 n5 c5) (spl 44 x1)) := by
                      have t1 := Vec.Es.keep HTO5.out (fun g cs k => k.other (p := ⟨w.heap.size + 1, 3, none⟩) (fun e => HV5.out.r.apart k (by decide) (by first | exact e | exact e.symm)) (.string s3))
                      have t2 := Vec.Es.keep t1 (fun g cs k => k.other (p := ⟨w.heap.size + 1, 4, none⟩) (fun e => (HV5.out.setMet s3).r.apart k (by decide) (by first | exact e | exact e.symm)) (.bool true))
                      exact Vec.Es.keep (Vec.Es.below t2 hb6) (fun g cs k => k.other (fun e => HA7.out.r.apart k (by decide) (by first | exact e | exact e.symm)) _)
                    have HLB : Hid (EsT (w6.setCell ⟨w.heap.size + 1, 5, none⟩ (.slice a6 n6 c6)) (.slice a6 n6 c6) (labsD x5)) := Vec.Es.keep he6 (fun g cs k => k.other (fun e => HA7.out.r.apart k (by decide) (by first | exact e | exact e.symm)) _)
                    have HFL : Hid (FitT (labsD x5)) := fun p hp => by
                      unfold labsD at hp
                      split at hp
                      · cases hp
                      · exact Nat.le_trans (spl_le hp) (Nat.le_trans HX55.out (by decide))
                    have HN6 : Hid (n6 ≤ 100000) := by
                      have h1 : n6 = (labsD x5).length := es_len (h := ⟨a6, n6, c6⟩) he6.rd
                      have h2 : (labsD x5).length ≤ x5.length + 1 := by
                        unfold labsD
                        split
                        · exact Nat.zero_le _
                        · exact spl_many 44 x5
                      have h3 := HX55.out
                      show _ ≤ _
                      omega
                    clear r0 r2 r2f r3 r3f r4 r4f rl q2 q3 q4 q5 ha2 ha3 ha4 hb4 ha5 HK5 HV5 HTO5 HLI he6 hb6 hq2 hq4 hq4l HKP HX55
                    have r5f := (HA7.out.r.cl 5 _ rfl).2
                    have r5 := (HA7.out.r.cl 5 _ rfl).1
                    have rl := HA7.out.r.lt
                    go_wp2
                    obtain ⟨V, hV⟩ : ∃ V, w6.setCell ⟨w.heap.size + 1, 5, none⟩ (.slice a6 n6 c6) = V := ⟨_, rfl⟩
                    rw [hV] at HV HTO HLB ⊢
                    clear hV r5 r5f rl ikn ine hlt hrn HA7 hrb hne
                    obtain rfl := HS3.out
                    have HEM : Hid (EsMr V (.slice a1 n1 c1) ((aheadP ws).map matW)) := HV.out.own.es
                    have HRI : Hid (RawRd V ⟨3, ⟨a1, n1, c1⟩, ⟨a5, n5, c5⟩, x3, true, ⟨a6, n6, c6⟩⟩ ⟨3, (aheadP ws).map matW, spl 44 x1, x3, true, labsD x5⟩) := ⟨rfl, HEM.out.rd, HTO.out.rd, rfl, rfl, HLB.out.rd⟩
                    have HFO := Lib.hid (refForm_any _ _ _ _ _ _ _ _ _ _ _ _ ⟨3, (aheadP ws).map matW, spl 44 x1, x3, true, labsD x5⟩ V.drew (HRI.out.below (below_dr0 V)) HFM.out HFT.out HFL.out (Nat.le_trans HX3.out (by decide)) HN1.out HN5.out HN6.out)
                    change Hid (Calls _ _ #[.agg #[.int .i64 3, .slice a1 n1 c1, .slice a5 n5 c5, .string (B x3), .bool true, .slice a6 n6 c6]] _ _) at HFO
                    obtain ⟨fo, hfo⟩ : ∃ fo, refForm ⟨3, (aheadP ws).map matW, spl 44 x1, x3, true, labsD x5⟩ = fo := ⟨_, rfl⟩
                    have HRW2 : Hid (rulD (w0 :: ws) = if fo = true then some ⟨3, (aheadP ws).map matW, spl 44 x1, x3, true, labsD x5⟩ else none) := by rw [← hfo, form_same]; exact HRW.out
                    have HRN : Hid ((rulD (w0 :: ws)).isSome = fo) := by show _ = _; rw [HRW2.out]; cases fo <;> rfl
                    have HRR : Hid (∀ W1 W', Below V.heap.size V W1 → (∀ g cs, Blk W1 g matR' cs → Blk W' g matR' cs) → (∀ g cs, Blk W1 g 9 cs → Blk W' g 9 cs) → ∀ r, rulD (w0 :: ws) = some r → RrIs W' ⟨3, ⟨a1, n1, c1⟩, ⟨a5, n5, c5⟩, x3, true, ⟨a6, n6, c6⟩⟩ r) := fun W1 W' hb k1 k2 r h => by
                      rw [HRW2.out] at h
                      split at h
                      · injection h with h
                        subst h
                        exact ⟨rfl, (Vec.Es.keep (Vec.Es.below HEM.out hb) k1), (Vec.Es.keep (Vec.Es.below HTO.out hb) k2), rfl, rfl, (Vec.Es.keep (Vec.Es.below HLB.out hb) k2)⟩
                      · cases h
                    have HRR : Hid (∀ W1 {W'}, Below V.heap.size V W1 → (∀ g cs, Blk W1 g matR' cs → Blk W' g matR' cs) → (∀ g cs, Blk W1 g 9 cs → Blk W' g 9 cs) → ∀ r, rulD (w0 :: ws) = some r → RrIs W' ⟨3, ⟨a1, n1, c1⟩, ⟨a5, n5, c5⟩, x3, true, ⟨a6, n6, c6⟩⟩ r) := fun W1 W' => HRR.out W1 W'
                    rw [hfo] at HFO
                    obtain ⟨v0, v1, v2, v3, v4, v5⟩ := cells6 HV.out.r
                    have hlt := HV.out.r.lt
                    have HKEEP : Hid (∀ w' : World, (∀ bx, bx ≠ w.heap.size → bx < V.heap.size → w'.heap[bx]? = V.heap[bx]?) → w'.cell? ⟨w.heap.size + 1, 0, none⟩ = some (.int .i64 3) ∧ w'.cell? ⟨w.heap.size + 1, 1, none⟩ = some (.slice a1 n1 c1) ∧ w'.cell? ⟨w.heap.size + 1, 2, none⟩ = some (.slice a5 n5 c5) ∧ w'.cell? ⟨w.heap.size + 1, 3, none⟩ = some (.string (B x3)) ∧ w'.cell? ⟨w.heap.size + 1, 4, none⟩ = some (.bool true) ∧ w'.cell? ⟨w.heap.size + 1, 5, none⟩ = some (.slice a6 n6 c6)) := fun w' h =>
                      have hr := h (w.heap.size + 1) (by omega) hlt
                      ⟨cell_k hr v0, cell_k hr v1, cell_k hr v2, cell_k hr v3, cell_k hr v4, cell_k hr v5⟩
                    clear hfo v0 v1 v2 v3 v4 v5 hlt HRI HRW HRW2 HEM
                    refine wp_region_held_drew (S := (fun w' => w'.cell? ⟨w.heap.size + 1, 0, none⟩ = some (.int .i64 3) ∧ w'.cell? ⟨w.heap.size + 1, 1, none⟩ = some (.slice a1 n1 c1) ∧ w'.cell? ⟨w.heap.size + 1, 2, none⟩ = some (.slice a5 n5 c5) ∧ w'.cell? ⟨w.heap.size + 1, 3, none⟩ = some (.string (B x3)) ∧ w'.cell? ⟨w.heap.size + 1, 4, none⟩ = some (.bool true) ∧ w'.cell? ⟨w.heap.size + 1, 5, none⟩ = some (.slice a6 n6 c6))) (by kernel_rfl) (HKEEP.out _ (fun _ _ _ => rfl)) (fun hHeld => ?_)
                    refine take_d (i := 0) (d := 131) (v := .agg #[.int .i64 3, .slice a1 n1 c1, .slice a5 n5 c5, .string (B x3), .bool true, .slice a6 n6 c6]) rfl rfl (by kernel_rfl) (by kernel_rfl) (by kernel_rfl) (fun _ _ _ h => h) (Or.inl ⟨by kernel_rfl, ?_⟩) (by assumption) ?_
                    · intro wS hSw
                      obtain ⟨hS0, hS1, hS2, hS3, hS4, hS5⟩ := hSw
                      go_simp
                    simp only [Act.put, List.setIfInBounds_toArray, List.set_cons_zero, List.set_cons_succ]
                    refine take_d (i := 1) (d := 132) (v := .agg #[.int .i64 3, .slice a1 n1 c1, .slice a5 n5 c5, .string (B x3), .bool true, .slice a6 n6 c6]) rfl rfl (by kernel_rfl) (by kernel_rfl) (by kernel_rfl) (fun _ _ _ h => h) (Or.inl ⟨by kernel_rfl, ?_⟩) (by assumption) ?_
                    · intro wS hSw
                      obtain ⟨hS0, hS1, hS2, hS3, hS4, hS5⟩ := hSw
                      go_simp
                    simp only [Act.put, List.setIfInBounds_toArray, List.set_cons_zero, List.set_cons_succ]
                    refine wpAnyH_ready (rs := [2]) (by kernel_rfl) (by simp) ?_
                    refine AllReadyH.cons rfl (fun K hK => ?_) ?_
                    · go_simp
                      go_wp2_with (go_at_call 24; refine HFO.out.mono ?_; rintro e w4 ⟨rfl, hb4⟩)
                      have HB4 : Hid (Below V.heap.size V w4) := below_undr hb4
                      have HP4 := Lib.hid (HV.out.res.below HB4.out HV.out.res.lt)
                      have pf : ∀ i, w4.frozen? ⟨w.heap.size, i, none⟩ = false := fun i => Lib.frozen_of_heap HP4.out i
                      have pf0 := pf 0
                      have pf1 := pf 1
                      have pf2 := pf 2
                      have pf3 := pf 3
                      have pf4 := pf 4
                      have pf5 := pf 5
                      obtain ⟨p0, p1, p2, p3, p4, p5⟩ := cells6 HP4.out
                      clear hb4 pf
                      refine hK.out _ _ ?_ (fun hHeld => ?_)
                      · exact HKEEP.out _ (fun bx _ hlt => HB4.out.block bx hlt)
                      clear hK K
                      refine wpAnyH_ready (rs := [3]) (by kernel_rfl) (by simp) ?_
                      refine AllReadyH.cons rfl (fun K hK => ?_) ?_
                      · go_simp
                        refine hK.out _ _ ?_ (fun hHeld => ?_)
                        · exact HKEEP.out _ (fun bx hx hlt => (heap6 hx _ _ _ _ _ _).trans (HB4.out.block bx hlt))
                        clear hK K
                        refine take_d (i := 4) (d := 3) (v := .bool fo) rfl rfl (by kernel_rfl) (by kernel_rfl) (by kernel_rfl) (fun _ _ _ h => h) (Or.inl ⟨by kernel_rfl, ?_⟩) (by assumption) ?_
                        · intro wS hSw
                          obtain ⟨hS0, hS1, hS2, hS3, hS4, hS5⟩ := hSw
                          go_simp
                        simp only [Act.put, List.setIfInBounds_toArray, List.set_cons_zero, List.set_cons_succ]
                        refine wpAnyH_done (by kernel_rfl) ?_ _
                        go_wp2
                        refine bodyPost_ret (results_rulD _ w.heap.size _ _ _ _ _ _ _ _ (blk6 HP4.out _ _ _ _ _ _) rfl rfl) rfl ?_
                        exact ⟨⟨3, ⟨a1, n1, c1⟩, ⟨a5, n5, c5⟩, x3, true, ⟨a6, n6, c6⟩⟩, by rw [HRN.out]; rfl, fun r h => HRR.out _ HB4.out (keep6 HP4.out (by decide) _ _ _ _ _ _) (keep6 HP4.out (by decide) _ _ _ _ _ _) r h, below6 (below_step HV.out.bl (Nat.le_refl _) HB4.out) (Nat.le_refl _) _ _ _ _ _ _⟩
                      exact AllReadyH.nil
                    exact AllReadyH.nil
                  · rw [decide_eq_false hK] at hq4
                    by_cases hL : x4 = wLess
                    · rw [decide_eq_true hL] at hq4l
                      have HKP : Hid ((x4 == wKeep) = false) := by show _ = _; exact beq_eq_false_iff_ne.2 hK
                      have HRW : Hid (rulD (w0 :: ws) = if formed ⟨3, (aheadP ws).map matW, spl 44 x1, x3, false, labsD x5⟩ = true then some ⟨3, (aheadP ws).map matW, spl 44 x1, x3, false, labsD x5⟩ else none) := by
                        show _ = _
                        rw [HD6.out, if_pos ⟨hA, .inr hL⟩, HKP.out, filt]
                      have HLI := fun W => Lib.hid (refList_any x5 W (HX5.out x5 (by simp)))
                      have HX3 : Hid (x3.length ≤ 9000) := HX5.out x3 (by simp)
                      have HX55 : Hid (x5.length ≤ 9000) := HX5.out x5 (by simp)
                      obtain ⟨s3, hs3⟩ : ∃ t, B x3 = t := ⟨_, rfl⟩
                      have q3 : w5.cell? ⟨rb, ro + 3, none⟩ = some (.string s3) := by rw [← hs3]; exact cell_bl HK5.out.bl HT3.out
                      have HS3 := Lib.hid hs3
                      obtain ⟨s5, hs5⟩ : ∃ t, B x5 = t := ⟨_, rfl⟩
                      have q5 : w5.cell? ⟨rb, ro + 5, none⟩ = some (.string s5) := by rw [← hs5]; exact cell_bl HK5.out.bl HT5.out
                      simp only [hs5] at HLI
                      have ha3 := cell?_other5 (v := Value.slice a5 n5 c5) (i := 2) hne q3
                      have hb4 := cell?_other5 (v := Value.string s3) (i := 3) hne ha4
                      have ha5 := cell?_other5 (v := Value.bool false) (i := 4) hne (cell?_other5 (v := Value.string s3) (i := 3) hne (cell?_other5 (v := Value.slice a5 n5 c5) (i := 2) hne q5))
                      have r3f := (HK5.out.r.cl 3 _ rfl).2
                      have r4f := (HK5.out.r.cl 4 _ rfl).2
                      have r3 := (HK5.out.r.cl 3 _ rfl).1
                      have r4 := (HK5.out.r.cl 4 _ rfl).1
                      clear HD6 HT2 HT3 HT4 HT5 HX5 hs3 hs5 hA hK hL
                      go_wp2_with fail
                      refine (HLI _).out.mono ?_
                      rintro e w6 ⟨a6, n6, c6, rfl, he6, hb6⟩
                      have HA7 : Hid (RwS w 3 (.slice a1 n1 c1) ((aheadP ws).map matW) (.slice a5 n5 c5) s3 false (.slice none 0 0) w6) := (((HK5.out.setTo _).setMet s3).setKeep false).below hb6
                      have HV : Hid (RwS w 3 (.slice a1 n1 c1) ((aheadP ws).map matW) (.slice a5 n5 c5) s3 false (.slice a6 n6 c6) (w6.setCell ⟨w.heap.size + 1, 5, none⟩ (.slice a6 n6 c6))) := HA7.out.setLabs _
                      have HTO : Hid (EsT (w6.setCell ⟨w.heap.size + 1, 5, none⟩ (.slice a6 n6 c6)) (.slice a5 n5 c5) (spl 44 x1)) := by
                        have t1 := Vec.Es.keep HTO5.out (fun g cs k => k.other (p := ⟨w.heap.size + 1, 3, none⟩) (fun e => HV5.out.r.apart k (by decide) (by first | exact e | exact e.symm)) (.string s3))
                        have t2 := Vec.Es.keep t1 (fun g cs k => k.other (p := ⟨w.heap.size + 1, 4, none⟩) (fun e => (HV5.out.setMet s3).r.apart k (by decide) (by first | exact e | exact e.symm)) (.bool false))
                        exact Vec.Es.keep (Vec.Es.below t2 hb6) (fun g cs k => k.other (fun e => HA7.out.r.apart k (by decide) (by first | exact e | exact e.symm)) _)
                      have HLB : Hid (EsT (w6.setCell ⟨w.heap.size + 1, 5, none⟩ (.slice a6 n6 c6)) (.slice a6 n6 c6) (labsD x5)) := Vec.Es.keep he6 (fun g cs k => k.other (fun e => HA7.out.r.apart k (by decide) (by first | exact e | exact e.symm)) _)
                      have HFL : Hid (FitT (labsD x5)) := fun p hp => by
                        unfold labsD at hp
                        split at hp
                        · cases hp
                        · exact Nat.le_trans (spl_le hp) (Nat.le_trans HX55.out (by decide))
                      have HN6 : Hid (n6 ≤ 100000) := by
                        have h1 : n6 = (labsD x5).length := es_len (h := ⟨a6, n6, c6⟩) he6.rd
                        have h2 : (labsD x5).length ≤ x5.length + 1 := by
                          unfold labsD
                          split
                          · exact Nat.zero_le _
                          · exact spl_many 44 x5
                        have h3 := HX55.out
                        show _ ≤ _
                        omega
                      clear r0 r2 r2f r3 r3f r4 r4f rl q2 q3 q4 q5 ha2 ha3 ha4 hb4 ha5 HK5 HV5 HTO5 HLI he6 hb6 hq2 hq4 hq4l HKP HX55
                      have r5f := (HA7.out.r.cl 5 _ rfl).2
                      have r5 := (HA7.out.r.cl 5 _ rfl).1
                      have rl := HA7.out.r.lt
                      go_wp2
                      obtain ⟨V, hV⟩ : ∃ V, w6.setCell ⟨w.heap.size + 1, 5, none⟩ (.slice a6 n6 c6) = V := ⟨_, rfl⟩
                      rw [hV] at HV HTO HLB ⊢
                      clear hV r5 r5f rl ikn ine hlt hrn HA7 hrb hne
                      obtain rfl := HS3.out
                      have HEM : Hid (EsMr V (.slice a1 n1 c1) ((aheadP ws).map matW)) := HV.out.own.es
                      have HRI : Hid (RawRd V ⟨3, ⟨a1, n1, c1⟩, ⟨a5, n5, c5⟩, x3, false, ⟨a6, n6, c6⟩⟩ ⟨3, (aheadP ws).map matW, spl 44 x1, x3, false, labsD x5⟩) := ⟨rfl, HEM.out.rd, HTO.out.rd, rfl, rfl, HLB.out.rd⟩
                      have HFO := Lib.hid (refForm_any _ _ _ _ _ _ _ _ _ _ _ _ ⟨3, (aheadP ws).map matW, spl 44 x1, x3, false, labsD x5⟩ V.drew (HRI.out.below (below_dr0 V)) HFM.out HFT.out HFL.out (Nat.le_trans HX3.out (by decide)) HN1.out HN5.out HN6.out)
                      change Hid (Calls _ _ #[.agg #[.int .i64 3, .slice a1 n1 c1, .slice a5 n5 c5, .string (B x3), .bool false, .slice a6 n6 c6]] _ _) at HFO
                      obtain ⟨fo, hfo⟩ : ∃ fo, refForm ⟨3, (aheadP ws).map matW, spl 44 x1, x3, false, labsD x5⟩ = fo := ⟨_, rfl⟩
                      have HRW2 : Hid (rulD (w0 :: ws) = if fo = true then some ⟨3, (aheadP ws).map matW, spl 44 x1, x3, false, labsD x5⟩ else none) := by rw [← hfo, form_same]; exact HRW.out
                      have HRN : Hid ((rulD (w0 :: ws)).isSome = fo) := by show _ = _; rw [HRW2.out]; cases fo <;> rfl
                      have HRR : Hid (∀ W1 W', Below V.heap.size V W1 → (∀ g cs, Blk W1 g matR' cs → Blk W' g matR' cs) → (∀ g cs, Blk W1 g 9 cs → Blk W' g 9 cs) → ∀ r, rulD (w0 :: ws) = some r → RrIs W' ⟨3, ⟨a1, n1, c1⟩, ⟨a5, n5, c5⟩, x3, false, ⟨a6, n6, c6⟩⟩ r) := fun W1 W' hb k1 k2 r h => by
                        rw [HRW2.out] at h
                        split at h
                        · injection h with h
                          subst h
                          exact ⟨rfl, (Vec.Es.keep (Vec.Es.below HEM.out hb) k1), (Vec.Es.keep (Vec.Es.below HTO.out hb) k2), rfl, rfl, (Vec.Es.keep (Vec.Es.below HLB.out hb) k2)⟩
                        · cases h
                      have HRR : Hid (∀ W1 {W'}, Below V.heap.size V W1 → (∀ g cs, Blk W1 g matR' cs → Blk W' g matR' cs) → (∀ g cs, Blk W1 g 9 cs → Blk W' g 9 cs) → ∀ r, rulD (w0 :: ws) = some r → RrIs W' ⟨3, ⟨a1, n1, c1⟩, ⟨a5, n5, c5⟩, x3, false, ⟨a6, n6, c6⟩⟩ r) := fun W1 W' => HRR.out W1 W'
                      rw [hfo] at HFO
                      obtain ⟨v0, v1, v2, v3, v4, v5⟩ := cells6 HV.out.r
                      have hlt := HV.out.r.lt
                      have HKEEP : Hid (∀ w' : World, (∀ bx, bx ≠ w.heap.size → bx < V.heap.size → w'.heap[bx]? = V.heap[bx]?) → w'.cell? ⟨w.heap.size + 1, 0, none⟩ = some (.int .i64 3) ∧ w'.cell? ⟨w.heap.size + 1, 1, none⟩ = some (.slice a1 n1 c1) ∧ w'.cell? ⟨w.heap.size + 1, 2, none⟩ = some (.slice a5 n5 c5) ∧ w'.cell? ⟨w.heap.size + 1, 3, none⟩ = some (.string (B x3)) ∧ w'.cell? ⟨w.heap.size + 1, 4, none⟩ = some (.bool false) ∧ w'.cell? ⟨w.heap.size + 1, 5, none⟩ = some (.slice a6 n6 c6)) := fun w' h =>
                        have hr := h (w.heap.size + 1) (by omega) hlt
                        ⟨cell_k hr v0, cell_k hr v1, cell_k hr v2, cell_k hr v3, cell_k hr v4, cell_k hr v5⟩
                      clear hfo v0 v1 v2 v3 v4 v5 hlt HRI HRW HRW2 HEM
                      refine wp_region_held_drew (S := (fun w' => w'.cell? ⟨w.heap.size + 1, 0, none⟩ = some (.int .i64 3) ∧ w'.cell? ⟨w.heap.size + 1, 1, none⟩ = some (.slice a1 n1 c1) ∧ w'.cell? ⟨w.heap.size + 1, 2, none⟩ = some (.slice a5 n5 c5) ∧ w'.cell? ⟨w.heap.size + 1, 3, none⟩ = some (.string (B x3)) ∧ w'.cell? ⟨w.heap.size + 1, 4, none⟩ = some (.bool false) ∧ w'.cell? ⟨w.heap.size + 1, 5, none⟩ = some (.slice a6 n6 c6))) (by kernel_rfl) (HKEEP.out _ (fun _ _ _ => rfl)) (fun hHeld => ?_)
                      refine take_d (i := 0) (d := 131) (v := .agg #[.int .i64 3, .slice a1 n1 c1, .slice a5 n5 c5, .string (B x3), .bool false, .slice a6 n6 c6]) rfl rfl (by kernel_rfl) (by kernel_rfl) (by kernel_rfl) (fun _ _ _ h => h) (Or.inl ⟨by kernel_rfl, ?_⟩) (by assumption) ?_
                      · intro wS hSw
                        obtain ⟨hS0, hS1, hS2, hS3, hS4, hS5⟩ := hSw
                        go_simp
                      simp only [Act.put, List.setIfInBounds_toArray, List.set_cons_zero, List.set_cons_succ]
                      refine take_d (i := 1) (d := 132) (v := .agg #[.int .i64 3, .slice a1 n1 c1, .slice a5 n5 c5, .string (B x3), .bool false, .slice a6 n6 c6]) rfl rfl (by kernel_rfl) (by kernel_rfl) (by kernel_rfl) (fun _ _ _ h => h) (Or.inl ⟨by kernel_rfl, ?_⟩) (by assumption) ?_
                      · intro wS hSw
                        obtain ⟨hS0, hS1, hS2, hS3, hS4, hS5⟩ := hSw
                        go_simp
                      simp only [Act.put, List.setIfInBounds_toArray, List.set_cons_zero, List.set_cons_succ]
                      refine wpAnyH_ready (rs := [2]) (by kernel_rfl) (by simp) ?_
                      refine AllReadyH.cons rfl (fun K hK => ?_) ?_
                      · go_simp
                        go_wp2_with (go_at_call 24; refine HFO.out.mono ?_; rintro e w4 ⟨rfl, hb4⟩)
                        have HB4 : Hid (Below V.heap.size V w4) := below_undr hb4
                        have HP4 := Lib.hid (HV.out.res.below HB4.out HV.out.res.lt)
                        have pf : ∀ i, w4.frozen? ⟨w.heap.size, i, none⟩ = false := fun i => Lib.frozen_of_heap HP4.out i
                        have pf0 := pf 0
                        have pf1 := pf 1
                        have pf2 := pf 2
                        have pf3 := pf 3
                        have pf4 := pf 4
                        have pf5 := pf 5
                        obtain ⟨p0, p1, p2, p3, p4, p5⟩ := cells6 HP4.out
                        clear hb4 pf
                        refine hK.out _ _ ?_ (fun hHeld => ?_)
                        · exact HKEEP.out _ (fun bx _ hlt => HB4.out.block bx hlt)
                        clear hK K
                        refine wpAnyH_ready (rs := [3]) (by kernel_rfl) (by simp) ?_
                        refine AllReadyH.cons rfl (fun K hK => ?_) ?_
                        · go_simp
                          refine hK.out _ _ ?_ (fun hHeld => ?_)
                          · exact HKEEP.out _ (fun bx hx hlt => (heap6 hx _ _ _ _ _ _).trans (HB4.out.block bx hlt))
                          clear hK K
                          refine take_d (i := 4) (d := 3) (v := .bool fo) rfl rfl (by kernel_rfl) (by kernel_rfl) (by kernel_rfl) (fun _ _ _ h => h) (Or.inl ⟨by kernel_rfl, ?_⟩) (by assumption) ?_
                          · intro wS hSw
                            obtain ⟨hS0, hS1, hS2, hS3, hS4, hS5⟩ := hSw
                            go_simp
                          simp only [Act.put, List.setIfInBounds_toArray, List.set_cons_zero, List.set_cons_succ]
                          refine wpAnyH_done (by kernel_rfl) ?_ _
                          go_wp2
                          refine bodyPost_ret (results_rulD _ w.heap.size _ _ _ _ _ _ _ _ (blk6 HP4.out _ _ _ _ _ _) rfl rfl) rfl ?_
                          exact ⟨⟨3, ⟨a1, n1, c1⟩, ⟨a5, n5, c5⟩, x3, false, ⟨a6, n6, c6⟩⟩, by rw [HRN.out]; rfl, fun r h => HRR.out _ HB4.out (keep6 HP4.out (by decide) _ _ _ _ _ _) (keep6 HP4.out (by decide) _ _ _ _ _ _) r h, below6 (below_step HV.out.bl (Nat.le_refl _) HB4.out) (Nat.le_refl _) _ _ _ _ _ _⟩
                        exact AllReadyH.nil
                      exact AllReadyH.nil
                    · rw [decide_eq_false hL] at hq4l
                      have HN : rulD (w0 :: ws) = none := by rw [HD6.out, if_neg (fun e => e.2.elim hK hL)]; rfl
                      have k0 := (HV5.out.res.cl 0 _ rfl).1
                      have k0f := (HV5.out.res.cl 0 _ rfl).2
                      have k1 := (HV5.out.res.cl 1 _ rfl).1
                      have k1f := (HV5.out.res.cl 1 _ rfl).2
                      have k2 := (HV5.out.res.cl 2 _ rfl).1
                      have k2f := (HV5.out.res.cl 2 _ rfl).2
                      have k3 := (HV5.out.res.cl 3 _ rfl).1
                      have k3f := (HV5.out.res.cl 3 _ rfl).2
                      have k4 := (HV5.out.res.cl 4 _ rfl).1
                      have k4f := (HV5.out.res.cl 4 _ rfl).2
                      have k5 := (HV5.out.res.cl 5 _ rfl).1
                      have k5f := (HV5.out.res.cl 5 _ rfl).2
                      have HF := Lib.hid (rul_none HV5.out HN)
                      clear HD6 hA hK hL HN HK5 HV5 HTO5 HFT HX5 HT2 HT3 HT4 HT5 HN5
                      go_wp2
                      obtain ⟨raw, h1, h2, h3⟩ := HF.out
                      exact bodyPost_ret (h1 _ rfl rfl) rfl ⟨raw, rfl, h2, h3⟩
                · rw [decide_eq_false hA] at hq2
                  have HN : rulD (w0 :: ws) = none := by rw [HD6.out, if_neg (fun e => hA e.1)]; rfl
                  have k0 := (HV5.out.res.cl 0 _ rfl).1
                  have k0f := (HV5.out.res.cl 0 _ rfl).2
                  have k1 := (HV5.out.res.cl 1 _ rfl).1
                  have k1f := (HV5.out.res.cl 1 _ rfl).2
                  have k2 := (HV5.out.res.cl 2 _ rfl).1
                  have k2f := (HV5.out.res.cl 2 _ rfl).2
                  have k3 := (HV5.out.res.cl 3 _ rfl).1
                  have k3f := (HV5.out.res.cl 3 _ rfl).2
                  have k4 := (HV5.out.res.cl 4 _ rfl).1
                  have k4f := (HV5.out.res.cl 4 _ rfl).2
                  have k5 := (HV5.out.res.cl 5 _ rfl).1
                  have k5f := (HV5.out.res.cl 5 _ rfl).2
                  have HF := Lib.hid (rul_none HV5.out HN)
                  clear HD6 hA hq4 hq4l HN HK5 HV5 HTO5 HFT HX5 HT2 HT3 HT4 HT5 HN5
                  go_wp2
                  obtain ⟨raw, h1, h2, h3⟩ := HF.out
                  exact bodyPost_ret (h1 _ rfl rfl) rfl ⟨raw, rfl, h2, h3⟩
              · have HN := HM.out ine
                have HF := Lib.hid (rul_none HK2.out HN)
                clear HM HLT HGE HRD HRN HK2 HKD HX HN
                go_wp2
                obtain ⟨raw, h1, h2, h3⟩ := HF.out
                exact bodyPost_ret (h1 _ rfl rfl) rfl ⟨raw, rfl, h2, h3⟩
          · have ikn : ¬ (k : Int) < (n : Int) := by omega
            obtain rfl : rn = 0 := HGE.out hlt
            rcases hkd with rfl | rfl | rfl | rfl
            · have HN := HM.out (by decide)
              have HF := Lib.hid (rul_none HK2.out HN)
              clear HM HLT HGE HRD HRN HK2 HKD HX HN
              go_wp2
              obtain ⟨raw, h1, h2, h3⟩ := HF.out
              exact bodyPost_ret (h1 _ rfl rfl) rfl ⟨raw, rfl, h2, h3⟩
            · have HRW : Hid (rulD (w0 :: ws) = if formed ⟨1, (aheadP ws).map matW, [], [], false, []⟩ = true then some ⟨1, (aheadP ws).map matW, [], [], false, []⟩ else none) := by
                show _ = _
                unfold rulD rulDR
                rw [if_pos ⟨kd_is1 HKD.out, HRN.out.symm⟩, filt]
                rfl
              clear k0 k0f k1 k1f k2 k2f k3 k3f k4 k4f k5 k5f HM HLT HGE HRD HRN
              obtain ⟨V, rfl⟩ : ∃ V, V = wo := ⟨_, rfl⟩
              have HTO : Hid (EsT V (.slice none 0 0) []) := Vec.Es.nil _ _ _
              have HLB : Hid (EsT V (.slice none 0 0) []) := Vec.Es.nil _ _ _
              have HV := HK2
              go_wp2
              clear r0 ikn hlt rl
              have HEM : Hid (EsMr V (.slice a1 n1 c1) ((aheadP ws).map matW)) := HV.out.own.es
              have HRI : Hid (RawRd V ⟨1, ⟨a1, n1, c1⟩, ⟨none, 0, 0⟩, [], false, ⟨none, 0, 0⟩⟩ ⟨1, (aheadP ws).map matW, [], [], false, []⟩) := ⟨rfl, HEM.out.rd, HTO.out.rd, rfl, rfl, HLB.out.rd⟩
              have HFO := Lib.hid (refForm_any _ _ _ _ _ _ _ _ _ _ _ _ ⟨1, (aheadP ws).map matW, [], [], false, []⟩ V.drew (HRI.out.below (below_dr0 V)) HFM.out fit_nil fit_nil (Nat.zero_le _) HN1.out (by decide) (by decide))
              change Hid (Calls _ _ #[.agg #[.int .i64 1, .slice a1 n1 c1, .slice none 0 0, .string ⟨#[]⟩, .bool false, .slice none 0 0]] _ _) at HFO
              obtain ⟨fo, hfo⟩ : ∃ fo, refForm ⟨1, (aheadP ws).map matW, [], [], false, []⟩ = fo := ⟨_, rfl⟩
              have HRW2 : Hid (rulD (w0 :: ws) = if fo = true then some ⟨1, (aheadP ws).map matW, [], [], false, []⟩ else none) := by rw [← hfo, form_same]; exact HRW.out
              have HRN : Hid ((rulD (w0 :: ws)).isSome = fo) := by show _ = _; rw [HRW2.out]; cases fo <;> rfl
              have HRR : Hid (∀ W1 W', Below V.heap.size V W1 → (∀ g cs, Blk W1 g matR' cs → Blk W' g matR' cs) → (∀ g cs, Blk W1 g 9 cs → Blk W' g 9 cs) → ∀ r, rulD (w0 :: ws) = some r → RrIs W' ⟨1, ⟨a1, n1, c1⟩, ⟨none, 0, 0⟩, [], false, ⟨none, 0, 0⟩⟩ r) := fun W1 W' hb k1 k2 r h => by
                rw [HRW2.out] at h
                split at h
                · injection h with h
                  subst h
                  exact ⟨rfl, (Vec.Es.keep (Vec.Es.below HEM.out hb) k1), (Vec.Es.keep (Vec.Es.below HTO.out hb) k2), rfl, rfl, (Vec.Es.keep (Vec.Es.below HLB.out hb) k2)⟩
                · cases h
              have HRR : Hid (∀ W1 {W'}, Below V.heap.size V W1 → (∀ g cs, Blk W1 g matR' cs → Blk W' g matR' cs) → (∀ g cs, Blk W1 g 9 cs → Blk W' g 9 cs) → ∀ r, rulD (w0 :: ws) = some r → RrIs W' ⟨1, ⟨a1, n1, c1⟩, ⟨none, 0, 0⟩, [], false, ⟨none, 0, 0⟩⟩ r) := fun W1 W' => HRR.out W1 W'
              rw [hfo] at HFO
              obtain ⟨v0, v1, v2, v3, v4, v5⟩ := cells6 HV.out.r
              have hlt := HV.out.r.lt
              have HKEEP : Hid (∀ w' : World, (∀ bx, bx ≠ w.heap.size → bx < V.heap.size → w'.heap[bx]? = V.heap[bx]?) → w'.cell? ⟨w.heap.size + 1, 0, none⟩ = some (.int .i64 1) ∧ w'.cell? ⟨w.heap.size + 1, 1, none⟩ = some (.slice a1 n1 c1) ∧ w'.cell? ⟨w.heap.size + 1, 2, none⟩ = some (.slice none 0 0) ∧ w'.cell? ⟨w.heap.size + 1, 3, none⟩ = some (.string ⟨#[]⟩) ∧ w'.cell? ⟨w.heap.size + 1, 4, none⟩ = some (.bool false) ∧ w'.cell? ⟨w.heap.size + 1, 5, none⟩ = some (.slice none 0 0)) := fun w' h =>
                have hr := h (w.heap.size + 1) (by omega) hlt
                ⟨cell_k hr v0, cell_k hr v1, cell_k hr v2, cell_k hr v3, cell_k hr v4, cell_k hr v5⟩
              clear hfo v0 v1 v2 v3 v4 v5 hlt HRI HRW HRW2 HEM
              refine wp_region_held_drew (S := (fun w' => w'.cell? ⟨w.heap.size + 1, 0, none⟩ = some (.int .i64 1) ∧ w'.cell? ⟨w.heap.size + 1, 1, none⟩ = some (.slice a1 n1 c1) ∧ w'.cell? ⟨w.heap.size + 1, 2, none⟩ = some (.slice none 0 0) ∧ w'.cell? ⟨w.heap.size + 1, 3, none⟩ = some (.string ⟨#[]⟩) ∧ w'.cell? ⟨w.heap.size + 1, 4, none⟩ = some (.bool false) ∧ w'.cell? ⟨w.heap.size + 1, 5, none⟩ = some (.slice none 0 0))) (by kernel_rfl) (HKEEP.out _ (fun _ _ _ => rfl)) (fun hHeld => ?_)
              refine take_d (i := 0) (d := 131) (v := .agg #[.int .i64 1, .slice a1 n1 c1, .slice none 0 0, .string ⟨#[]⟩, .bool false, .slice none 0 0]) rfl rfl (by kernel_rfl) (by kernel_rfl) (by kernel_rfl) (fun _ _ _ h => h) (Or.inl ⟨by kernel_rfl, ?_⟩) (by assumption) ?_
              · intro wS hSw
                obtain ⟨hS0, hS1, hS2, hS3, hS4, hS5⟩ := hSw
                go_simp
              simp only [Act.put, List.setIfInBounds_toArray, List.set_cons_zero, List.set_cons_succ]
              refine take_d (i := 1) (d := 132) (v := .agg #[.int .i64 1, .slice a1 n1 c1, .slice none 0 0, .string ⟨#[]⟩, .bool false, .slice none 0 0]) rfl rfl (by kernel_rfl) (by kernel_rfl) (by kernel_rfl) (fun _ _ _ h => h) (Or.inl ⟨by kernel_rfl, ?_⟩) (by assumption) ?_
              · intro wS hSw
                obtain ⟨hS0, hS1, hS2, hS3, hS4, hS5⟩ := hSw
                go_simp
              simp only [Act.put, List.setIfInBounds_toArray, List.set_cons_zero, List.set_cons_succ]
              refine wpAnyH_ready (rs := [2]) (by kernel_rfl) (by simp) ?_
              refine AllReadyH.cons rfl (fun K hK => ?_) ?_
              · go_simp
                go_wp2_with (go_at_call 24; refine HFO.out.mono ?_; rintro e w4 ⟨rfl, hb4⟩)
                have HB4 : Hid (Below V.heap.size V w4) := below_undr hb4
                have HP4 := Lib.hid (HV.out.res.below HB4.out HV.out.res.lt)
                have pf : ∀ i, w4.frozen? ⟨w.heap.size, i, none⟩ = false := fun i => Lib.frozen_of_heap HP4.out i
                have pf0 := pf 0
                have pf1 := pf 1
                have pf2 := pf 2
                have pf3 := pf 3
                have pf4 := pf 4
                have pf5 := pf 5
                obtain ⟨p0, p1, p2, p3, p4, p5⟩ := cells6 HP4.out
                clear hb4 pf
                refine hK.out _ _ ?_ (fun hHeld => ?_)
                · exact HKEEP.out _ (fun bx _ hlt => HB4.out.block bx hlt)
                clear hK K
                refine wpAnyH_ready (rs := [3]) (by kernel_rfl) (by simp) ?_
                refine AllReadyH.cons rfl (fun K hK => ?_) ?_
                · go_simp
                  refine hK.out _ _ ?_ (fun hHeld => ?_)
                  · exact HKEEP.out _ (fun bx hx hlt => (heap6 hx _ _ _ _ _ _).trans (HB4.out.block bx hlt))
                  clear hK K
                  refine take_d (i := 4) (d := 3) (v := .bool fo) rfl rfl (by kernel_rfl) (by kernel_rfl) (by kernel_rfl) (fun _ _ _ h => h) (Or.inl ⟨by kernel_rfl, ?_⟩) (by assumption) ?_
                  · intro wS hSw
                    obtain ⟨hS0, hS1, hS2, hS3, hS4, hS5⟩ := hSw
                    go_simp
                  simp only [Act.put, List.setIfInBounds_toArray, List.set_cons_zero, List.set_cons_succ]
                  refine wpAnyH_done (by kernel_rfl) ?_ _
                  go_wp2
                  refine bodyPost_ret (results_rulD _ w.heap.size _ _ _ _ _ _ _ _ (blk6 HP4.out _ _ _ _ _ _) rfl rfl) rfl ?_
                  exact ⟨⟨1, ⟨a1, n1, c1⟩, ⟨none, 0, 0⟩, [], false, ⟨none, 0, 0⟩⟩, by rw [HRN.out]; rfl, fun r h => HRR.out _ HB4.out (keep6 HP4.out (by decide) _ _ _ _ _ _) (keep6 HP4.out (by decide) _ _ _ _ _ _) r h, below6 (below_step HV.out.bl (Nat.le_refl _) HB4.out) (Nat.le_refl _) _ _ _ _ _ _⟩
                exact AllReadyH.nil
              exact AllReadyH.nil
            · have HN := HM.out (by decide)
              have HF := Lib.hid (rul_none HK2.out HN)
              clear HM HLT HGE HRD HRN HK2 HKD HX HN
              go_wp2
              obtain ⟨raw, h1, h2, h3⟩ := HF.out
              exact bodyPost_ret (h1 _ rfl rfl) rfl ⟨raw, rfl, h2, h3⟩
            · have HN := HM.out (by decide)
              have HF := Lib.hid (rul_none HK2.out HN)
              clear HM HLT HGE HRD HRN HK2 HKD HX HN
              go_wp2
              obtain ⟨raw, h1, h2, h3⟩ := HF.out
              exact bodyPost_ret (h1 _ rfl rfl) rfl ⟨raw, rfl, h2, h3⟩
    end Ru
    end Go.Proofs.YtiahelekgjdjlaaGreatDoor
