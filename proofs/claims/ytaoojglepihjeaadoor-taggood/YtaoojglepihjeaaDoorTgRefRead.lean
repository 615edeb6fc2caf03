/- What the document's Read (tidemillref02) answers, of any text that isn't long. -/
import Derived.Test.YtaoojglepihjeaaDoorTgRead
import Derived.Test.YtaoojglepihjeaaDoorTgRefGood
namespace Go.Proofs.YtaoojglepihjeaaDoor
open Go.RowKit Go.Shelf
namespace Tg
theorem suffix_none {r : ByteArray} (h : r.size = 0) : Lib.hasSuffix r.data.toList [125] = false := by
  have : r.data.toList = [] := List.length_eq_zero_iff.1 (by rw [len_data]; exact h)
  rw [this]; rfl
theorem suffix_at {r : ByteArray} (h : 0 < r.size) : Lib.hasSuffix r.data.toList [125] = (r[r.size - 1]'(by omega) == 125) := by
  have hl : r.data.toList = r.data.toList.take (r.size - 1) ++ [r[r.size - 1]'(by omega)] := by
    have := take_snoc r (r.size - 1) (by omega)
    rw [show r.size - 1 + 1 = r.size by omega, take_all] at this
    exact this
  rw [Bool.eq_iff_iff, beq_iff_eq]
  constructor
  · intro hs
    obtain ⟨t, ht⟩ := List.isSuffixOf_iff_suffix.1 hs
    rw [hl] at ht
    have := List.append_inj_right' ht (by simp)
    simpa using this.symm
  · intro e
    rw [hl, e]
    exact (suffix_app _).1
theorem trim_at {r : ByteArray} (h : Lib.hasSuffix r.data.toList [125] = true) : (⟨(Lib.trimSuffix r.data.toList [125]).toArray⟩ : ByteArray) = r.extract 0 (r.size - 1) := by
  unfold Lib.trimSuffix
  rw [h, if_pos rfl, Lib.extract_eq, List.drop_zero, Nat.sub_zero, len_data]
  rfl
end Tg
/-- the loop's measure -/
def loopM (more rest : Value) : Nat := match more, rest with
  | .bool true, .string s => s.size + 1
  | _, _ => 0
namespace Tg
theorem labs_lm (l : List (List UInt8)) (h : ∀ p ∈ l, p.length ≤ 100000) : labs (l.map lmOf) = l.map labOf := by
  unfold labs
  rw [List.map_map]
  apply List.map_congr_left
  intro p hp
  exact lmOf_val (h p hp)
theorem splitAll_len (l : List UInt8) : (splitAll l).length ≤ l.length + 1 := splitN_len _ _
theorem splitAll_mem (l : List UInt8) : ∀ p ∈ splitAll l, p.length ≤ l.length := splitN_mem _ _
end Tg
namespace Tg
theorem part_step (rem : ByteArray) : ∃ (one bh : ByteArray) (cm : Bool), (⟨(Lib.cut rem.data.toList [44]).1.toArray⟩ : ByteArray) = one ∧ (⟨(Lib.cut rem.data.toList [44]).2.1.toArray⟩ : ByteArray) = bh ∧ (Lib.cut rem.data.toList [44]).2.2 = cm ∧
    splitAll rem.data.toList = one.data.toList :: (if cm then splitAll bh.data.toList else []) ∧ one.size ≤ rem.size ∧ bh.size ≤ rem.size ∧ (cm = true → bh.size < rem.size) := by
  refine ⟨_, _, _, rfl, rfl, rfl, ?_, ?_, ?_, ?_⟩
  · rw [splitAll_eq]
    rcases cut_cases 44 rem.data.toList with ⟨_, e⟩ | ⟨a, b, _, _, e⟩
    · rw [e]; rfl
    · rw [e]; rfl
  · have := (cut_len 44 rem.data.toList).1
    rw [len_data] at this
    rw [Lib.size_eq]; exact this
  · have := (cut_len 44 rem.data.toList).2
    rw [len_data] at this
    rw [Lib.size_eq]; exact this
  · intro hc
    rcases cut_cases 44 rem.data.toList with ⟨_, e⟩ | ⟨a, b, _, h, e⟩
    · rw [e] at hc; cases hc
    · rw [e, Lib.size_eq, ← len_data rem, h]
      simp
      omega
end Tg
/-- what the document's Read hands back -/
def RefReaded (l : List UInt8) (w : World) (e : Ending) (w' : World) : Prop :=
  ∃ m' v r, e = .returned (.tuple #[.agg #[.string m', v], .bool (Tg.dOk l)]) ∧ Row w' w.heap.size v r ∧ Below w.heap.size w w' ∧
    (Tg.dOk l = true → m' = ⟨(Tg.rMet l).toArray⟩ ∧ Tg.labs r = Tg.dLabs l)
set_option maxRecDepth 100000 in
set_option maxHeartbeats 4000000 in
theorem refRead_any (s : ByteArray) (w : World) (hs : s.size ≤ 5000) :
    Calls Tryd.prog 13 #[.string s] w (RefReaded s.data.toList w) := by
  have c0 : Cl (w.alloc (.cells #[.string ⟨#[]⟩, .slice none 0 0] 24)) ⟨w.heap.size, 0, none⟩ (.string ⟨#[]⟩) := Cl.new w _ _ 0 _ rfl
  have c1 : Cl (w.alloc (.cells #[.string ⟨#[]⟩, .slice none 0 0] 24)) ⟨w.heap.size, 1, none⟩ (.slice none 0 0) := Cl.new w _ _ 1 _ rfl
  have hB0 : Below w.heap.size w (w.alloc (.cells #[.string ⟨#[]⟩, .slice none 0 0] 24)) := (Below.refl _ w).alloc (Nat.le_refl _) _
  have hC := fun w1 => Lib.hid (refCut_any s 123 w1 (by unfold maxLen; omega))
  have hRS : (Tg.rRest s.data.toList).length ≤ 5000 := by
    have := (Tg.cut_len 123 s.data.toList).2
    rw [Tg.len_data] at this
    unfold Tg.rRest
    omega
  have hms : (Tg.rMet s.data.toList).length ≤ 5000 := by
    have := (Tg.cut_len 123 s.data.toList).1
    rw [Tg.len_data] at this
    unfold Tg.rMet
    omega
  have HOK : Hid (Tg.dOk s.data.toList = ((!Tg.rSome s.data.toList || Tg.rShut s.data.toList && (Tg.splitAll (Tg.rInner s.data.toList)).all Tg.isKv) && Tg.goodB ⟨(Tg.rMet s.data.toList).toArray⟩ (Tg.dLabs s.data.toList))) := rfl
  have HLS : Hid (Tg.dLabs s.data.toList = if Tg.rSome s.data.toList then (Tg.splitAll (Tg.rInner s.data.toList)).map Tg.labOf else []) := rfl
  change ∀ w1, Hid (Calls _ _ #[.string s, .int .u8 123] _ fun e w' => e = .returned (.tuple #[.string ⟨(Tg.rMet s.data.toList).toArray⟩, .string ⟨(Tg.rRest s.data.toList).toArray⟩, .bool (Tg.rSome s.data.toList)]) ∧ _) at hC
  have HSH : Hid (Tg.rShut s.data.toList = Lib.hasSuffix (Tg.rRest s.data.toList) [125] ∧ Tg.rInner s.data.toList = Lib.trimSuffix (Tg.rRest s.data.toList) [125]) := ⟨rfl, rfl⟩
  obtain ⟨rs, hrs, hrd⟩ : ∃ rs : ByteArray, (⟨(Tg.rRest s.data.toList).toArray⟩ : ByteArray) = rs ∧ rs.data.toList = Tg.rRest s.data.toList := ⟨_, rfl, rfl⟩
  rw [hrs] at hC
  rw [← hrd] at HSH hRS
  have hrz : rs.size ≤ 5000 := by rw [Lib.size_eq]; exact hRS
  clear hrs hrd hRS
  have hz0 : rs.size ≠ 0 → ((rs.size : Int) == 0) = false := fun h => beq_eq_false_iff_ne.2 (by omega)
  cases hsm : Tg.rSome s.data.toList with
  | false =>
    rw [hsm] at hC HOK HLS
    have HLE : Hid (Tg.dLabs s.data.toList = []) := by show _ = _; rw [HLS.out]; rfl
    have HLB : Hid (Tg.labs [] = Tg.dLabs s.data.toList) := by show _ = _; rw [HLE.out]; rfl
    have HALL : Hid True := trivial
    clear hz0
    go_enter Tryd.func13, Tryd.ntmps13
    go_wp2_with fail
    refine (hC _).out.mono ?_
    rintro e w1 ⟨rfl, q, rfl⟩
    have d0 : Cl (((w.alloc (.cells #[.string ⟨#[]⟩, .slice none 0 0] 24)).drewN q).alloc (.cells #[.string ⟨(Tg.rMet s.data.toList).toArray⟩, .slice none 0 0] 24)) ⟨w.heap.size, 0, none⟩ (.string ⟨#[]⟩) := (c0.drewN q).alloc _
    have d1 : Cl (((w.alloc (.cells #[.string ⟨#[]⟩, .slice none 0 0] 24)).drewN q).alloc (.cells #[.string ⟨(Tg.rMet s.data.toList).toArray⟩, .slice none 0 0] 24)) ⟨w.heap.size, 1, none⟩ (.slice none 0 0) := (c1.drewN q).alloc _
    have bx : Blk (((w.alloc (.cells #[.string ⟨#[]⟩, .slice none 0 0] 24)).drewN q).alloc (.cells #[.string ⟨(Tg.rMet s.data.toList).toArray⟩, .slice none 0 0] 24)) (w.heap.size + 1) 24 #[.string ⟨(Tg.rMet s.data.toList).toArray⟩, .slice none 0 0] := by
      have h := Blk.new ((w.alloc (.cells #[.string ⟨#[]⟩, .slice none 0 0] 24)).drewN q) 24 #[.string ⟨(Tg.rMet s.data.toList).toArray⟩, .slice none 0 0]
      simpa using h
    have hB2 : Below w.heap.size w (((w.alloc (.cells #[.string ⟨#[]⟩, .slice none 0 0] 24)).drewN q).alloc (.cells #[.string ⟨(Tg.rMet s.data.toList).toArray⟩, .slice none 0 0] 24)) := (below_dN hB0 q).alloc (by simp) _
    have hz2 : (((w.alloc (.cells #[.string ⟨#[]⟩, .slice none 0 0] 24)).drewN q).alloc (.cells #[.string ⟨(Tg.rMet s.data.toList).toArray⟩, .slice none 0 0] 24)).heap.size = w.heap.size + 1 + 1 := by simp
    have hG := Lib.hid (refGood_any ⟨(Tg.rMet s.data.toList).toArray⟩ (by rw [Lib.size_eq]; unfold maxLen; simp only; omega) none 0 0 (fun _ => Tg.labDef) (by decide) (((w.alloc (.cells #[.string ⟨#[]⟩, .slice none 0 0] 24)).drewN q).alloc (.cells #[.string ⟨(Tg.rMet s.data.toList).toArray⟩, .slice none 0 0] 24)) (.inl rfl))
    rw [show Tg.labs (Tg.upto (fun _ => Tg.labDef) 0) = Tg.dLabs s.data.toList from by rw [HLE.out]; rfl] at hG
    have hrow : Row (((w.alloc (.cells #[.string ⟨#[]⟩, .slice none 0 0] 24)).drewN q).alloc (.cells #[.string ⟨(Tg.rMet s.data.toList).toArray⟩, .slice none 0 0] 24)) (w.heap.size + 1 + 1) (.slice none 0 0) [] := Row.nil _ _
    go_wp2_with fail
    refine hG.out.mono ?_
    rintro e w3 ⟨rfl, hb3⟩
    have hB3 : Below w.heap.size w w3 := hB2.trans (hb3.mono hB2.size)
    have hrow3 := hrow.below hb3 (Nat.le_refl _)
    have bx3 := bx.below hb3 (by omega)
    have e0 := d0.below hb3 (by show w.heap.size < _; omega)
    have e1 := d1.below hb3 (by show w.heap.size < _; omega)
    have e0c := e0.1
    have e0f := e0.2
    have e1c := e1.1
    have e1f := e1.2
    have x0c := (bx3.cl 0 _ rfl).1
    have x1c := (bx3.cl 1 _ rfl).1
    cases hgd : Tg.goodB ⟨(Tg.rMet s.data.toList).toArray⟩ (Tg.dLabs s.data.toList) with
    | false =>
      have HR : Hid (Tg.dOk s.data.toList = false) := by show _ = _; rw [HOK.out, hgd, Bool.and_false]
      clear HOK
      go_wp2
      obtain ⟨f0, f1⟩ := two_set (x0 := .string ⟨#[]⟩) (x1 := .slice none 0 0) e0 e1
      refine bodyPost_ret (v := .tuple #[.agg #[.string ⟨#[]⟩, .slice none 0 0], .bool false]) (by simp [results, Tryd.results13, go_sem, f0, f1]) rfl ⟨⟨#[]⟩, .slice none 0 0, [], by rw [HR.out], Row.nil _ _, ?_, (fun h => by rw [HR.out] at h; cases h)⟩
      exact (hB3.setCell (p := ⟨w.heap.size, 0, none⟩) (Nat.le_refl _) _).setCell (p := ⟨w.heap.size, 1, none⟩) (Nat.le_refl _) _
    | true =>
      rw [hgd] at HOK
      have HR : Hid (Tg.dOk s.data.toList = true) := by show _ = _; rw [HOK.out]; first | rfl | (rw [HALL.out]; rfl)
      clear HOK
      go_wp2
      obtain ⟨f0, f1⟩ := two_set (x0 := .string ⟨(Tg.rMet s.data.toList).toArray⟩) (x1 := .slice none 0 0) e0 e1
      refine bodyPost_ret (v := .tuple #[.agg #[.string ⟨(Tg.rMet s.data.toList).toArray⟩, .slice none 0 0], .bool true]) (by simp [results, Tryd.results13, go_sem, f0, f1]) rfl ⟨_, .slice none 0 0, [], by rw [HR.out], ?_, ?_, fun _ => ⟨rfl, HLB.out⟩⟩
      · refine (hrow3.stay fun g hg _ => ?_).base (show w.heap.size ≤ w.heap.size + 1 + 1 by omega)
        rw [heap_set (p := ⟨w.heap.size, 1, none⟩) (show w.heap.size ≠ g by omega), heap_set (p := ⟨w.heap.size, 0, none⟩) (show w.heap.size ≠ g by omega)]
      · exact (hB3.setCell (p := ⟨w.heap.size, 0, none⟩) (Nat.le_refl _) _).setCell (p := ⟨w.heap.size, 1, none⟩) (Nat.le_refl _) _
  | true =>
    rw [hsm] at hC HOK HLS
    by_cases hr0 : rs.size = 0
    · have hz : ((rs.size : Int) == 0) = true := beq_iff_eq.2 (by omega)
      clear hz0
      have HR : Hid (Tg.dOk s.data.toList = false) := by
        show _ = _
        have hsh : Tg.rShut s.data.toList = false := by rw [HSH.out.1]; exact Tg.suffix_none hr0
        rw [HOK.out, hsh]; rfl
      clear HOK
      go_enter Tryd.func13, Tryd.ntmps13
      go_wp2_with fail
      refine (hC _).out.mono ?_
      rintro e w1 ⟨rfl, q, rfl⟩
      have d0 : Cl (((w.alloc (.cells #[.string ⟨#[]⟩, .slice none 0 0] 24)).drewN q).alloc (.cells #[.string ⟨(Tg.rMet s.data.toList).toArray⟩, .slice none 0 0] 24)) ⟨w.heap.size, 0, none⟩ (.string ⟨#[]⟩) := (c0.drewN q).alloc _
      have d1 : Cl (((w.alloc (.cells #[.string ⟨#[]⟩, .slice none 0 0] 24)).drewN q).alloc (.cells #[.string ⟨(Tg.rMet s.data.toList).toArray⟩, .slice none 0 0] 24)) ⟨w.heap.size, 1, none⟩ (.slice none 0 0) := (c1.drewN q).alloc _
      have bx : Blk (((w.alloc (.cells #[.string ⟨#[]⟩, .slice none 0 0] 24)).drewN q).alloc (.cells #[.string ⟨(Tg.rMet s.data.toList).toArray⟩, .slice none 0 0] 24)) (w.heap.size + 1) 24 #[.string ⟨(Tg.rMet s.data.toList).toArray⟩, .slice none 0 0] := by
        have h := Blk.new ((w.alloc (.cells #[.string ⟨#[]⟩, .slice none 0 0] 24)).drewN q) 24 #[.string ⟨(Tg.rMet s.data.toList).toArray⟩, .slice none 0 0]
        simpa using h
      have hB2 : Below w.heap.size w (((w.alloc (.cells #[.string ⟨#[]⟩, .slice none 0 0] 24)).drewN q).alloc (.cells #[.string ⟨(Tg.rMet s.data.toList).toArray⟩, .slice none 0 0] 24)) := (below_dN hB0 q).alloc (by simp) _
      have hz2 : (((w.alloc (.cells #[.string ⟨#[]⟩, .slice none 0 0] 24)).drewN q).alloc (.cells #[.string ⟨(Tg.rMet s.data.toList).toArray⟩, .slice none 0 0] 24)).heap.size = w.heap.size + 1 + 1 := by simp
      have e0 := (c0.drewN q)
      have e1 := (c1.drewN q)
      have e0c := e0.1
      have e0f := e0.2
      have e1c := e1.1
      have e1f := e1.2
      go_wp2
      have g0 := (((e0.set (.string ⟨#[]⟩)).other (p := ⟨w.heap.size, 1, none⟩) (addr_ne' (by decide)) (.slice none 0 0)).alloc (.cells #[.string ⟨(Tg.rMet s.data.toList).toArray⟩, .slice none 0 0] 24)).1
      have g1 := (((e1.other (p := ⟨w.heap.size, 0, none⟩) (addr_ne' (by decide)) (.string ⟨#[]⟩)).set (.slice none 0 0)).alloc (.cells #[.string ⟨(Tg.rMet s.data.toList).toArray⟩, .slice none 0 0] 24)).1
      refine bodyPost_ret (v := .tuple #[.agg #[.string ⟨#[]⟩, .slice none 0 0], .bool false]) (by simp [results, Tryd.results13, go_sem, g0, g1]) rfl ⟨⟨#[]⟩, .slice none 0 0, [], by rw [HR.out], Row.nil _ _, ?_, (fun h => by rw [HR.out] at h; cases h)⟩
      exact (((below_dN hB0 q).setCell (p := ⟨w.heap.size, 0, none⟩) (Nat.le_refl _) _).setCell (p := ⟨w.heap.size, 1, none⟩) (Nat.le_refl _) _).alloc (by simp [World.setCell]) _
    · have hz := hz0 hr0
      clear hz0
      have hpos : (0 : Int) ≤ (rs.size : Int) - 1 := by omega
      have htn : ((rs.size : Int) - 1).toNat = rs.size - 1 := by omega
      cases hlast : (rs[rs.size - 1]'(by omega) == 125) with
      | false =>
        have hidx : (((rs[rs.size - 1]'(by omega)).toNat : Int) != 125) = true := bne_iff_ne.2 (fun h => by
          have : rs[rs.size - 1]'(by omega) = 125 := UInt8.toNat_inj.1 (by rw [show (125 : UInt8).toNat = 125 from rfl]; omega)
          rw [this] at hlast
          cases hlast)
        have HR : Hid (Tg.dOk s.data.toList = false) := by
          show _ = _
          have hsh : Tg.rShut s.data.toList = false := by rw [HSH.out.1]; rw [Tg.suffix_at (by omega), hlast]
          rw [HOK.out, hsh]; rfl
        clear HOK
        go_enter Tryd.func13, Tryd.ntmps13
        go_wp2_with fail
        refine (hC _).out.mono ?_
        rintro e w1 ⟨rfl, q, rfl⟩
        have d0 : Cl (((w.alloc (.cells #[.string ⟨#[]⟩, .slice none 0 0] 24)).drewN q).alloc (.cells #[.string ⟨(Tg.rMet s.data.toList).toArray⟩, .slice none 0 0] 24)) ⟨w.heap.size, 0, none⟩ (.string ⟨#[]⟩) := (c0.drewN q).alloc _
        have d1 : Cl (((w.alloc (.cells #[.string ⟨#[]⟩, .slice none 0 0] 24)).drewN q).alloc (.cells #[.string ⟨(Tg.rMet s.data.toList).toArray⟩, .slice none 0 0] 24)) ⟨w.heap.size, 1, none⟩ (.slice none 0 0) := (c1.drewN q).alloc _
        have bx : Blk (((w.alloc (.cells #[.string ⟨#[]⟩, .slice none 0 0] 24)).drewN q).alloc (.cells #[.string ⟨(Tg.rMet s.data.toList).toArray⟩, .slice none 0 0] 24)) (w.heap.size + 1) 24 #[.string ⟨(Tg.rMet s.data.toList).toArray⟩, .slice none 0 0] := by
          have h := Blk.new ((w.alloc (.cells #[.string ⟨#[]⟩, .slice none 0 0] 24)).drewN q) 24 #[.string ⟨(Tg.rMet s.data.toList).toArray⟩, .slice none 0 0]
          simpa using h
        have hB2 : Below w.heap.size w (((w.alloc (.cells #[.string ⟨#[]⟩, .slice none 0 0] 24)).drewN q).alloc (.cells #[.string ⟨(Tg.rMet s.data.toList).toArray⟩, .slice none 0 0] 24)) := (below_dN hB0 q).alloc (by simp) _
        have hz2 : (((w.alloc (.cells #[.string ⟨#[]⟩, .slice none 0 0] 24)).drewN q).alloc (.cells #[.string ⟨(Tg.rMet s.data.toList).toArray⟩, .slice none 0 0] 24)).heap.size = w.heap.size + 1 + 1 := by simp
        have e0 := (c0.drewN q)
        have e1 := (c1.drewN q)
        have e0c := e0.1
        have e0f := e0.2
        have e1c := e1.1
        have e1f := e1.2
        go_wp2
        have g0 := (((e0.set (.string ⟨#[]⟩)).other (p := ⟨w.heap.size, 1, none⟩) (addr_ne' (by decide)) (.slice none 0 0)).alloc (.cells #[.string ⟨(Tg.rMet s.data.toList).toArray⟩, .slice none 0 0] 24)).1
        have g1 := (((e1.other (p := ⟨w.heap.size, 0, none⟩) (addr_ne' (by decide)) (.string ⟨#[]⟩)).set (.slice none 0 0)).alloc (.cells #[.string ⟨(Tg.rMet s.data.toList).toArray⟩, .slice none 0 0] 24)).1
        refine bodyPost_ret (v := .tuple #[.agg #[.string ⟨#[]⟩, .slice none 0 0], .bool false]) (by simp [results, Tryd.results13, go_sem, g0, g1]) rfl ⟨⟨#[]⟩, .slice none 0 0, [], by rw [HR.out], Row.nil _ _, ?_, (fun h => by rw [HR.out] at h; cases h)⟩
        exact (((below_dN hB0 q).setCell (p := ⟨w.heap.size, 0, none⟩) (Nat.le_refl _) _).setCell (p := ⟨w.heap.size, 1, none⟩) (Nat.le_refl _) _).alloc (by simp [World.setCell]) _
      | true =>
        have hidx : (((rs[rs.size - 1]'(by omega)).toNat : Int) != 125) = false := by
          rw [eq_of_beq hlast]; rfl
        have hsh : Tg.rShut s.data.toList = true := by rw [HSH.out.1, Tg.suffix_at (by omega), hlast]
        have hin : (⟨(Tg.rInner s.data.toList).toArray⟩ : ByteArray) = rs.extract 0 (rs.size - 1) := by rw [HSH.out.2]; exact Tg.trim_at (by rw [Tg.suffix_at (by omega), hlast])
        rw [hsh, Bool.true_and] at HOK
        obtain ⟨nn, hnn, hnd⟩ : ∃ nn : ByteArray, rs.extract 0 (rs.size - 1) = nn ∧ nn.data.toList = Tg.rInner s.data.toList := ⟨_, rfl, by rw [← hin]⟩
        have hnz : nn.size ≤ 5000 := by rw [← hnn]; simp; omega
        have HLS' : Hid (Tg.dLabs s.data.toList = (Tg.splitAll nn.data.toList).map Tg.labOf) := by show _ = _; rw [HLS.out, hnd]; rfl
        rw [← hnd] at HOK
        have hns := Tg.splitAll_len nn.data.toList
        rw [Tg.len_data] at hns
        obtain ⟨i0, hi, hz0', hz1, hz2'⟩ := info_parts Tg.info_label
        have HSM := Lib.hid (Tg.splitAll_mem nn.data.toList)
        rw [Tg.len_data] at HSM
        clear hin hnd hsh HLS HSH
        have HNN := Lib.hid hnn
        clear hnn
        go_enter Tryd.func13, Tryd.ntmps13
        go_wp2_with fail
        refine (hC _).out.mono ?_
        rintro e w1 ⟨rfl, q, rfl⟩
        have d0 : Cl (((w.alloc (.cells #[.string ⟨#[]⟩, .slice none 0 0] 24)).drewN q).alloc (.cells #[.string ⟨(Tg.rMet s.data.toList).toArray⟩, .slice none 0 0] 24)) ⟨w.heap.size, 0, none⟩ (.string ⟨#[]⟩) := (c0.drewN q).alloc _
        have d1 : Cl (((w.alloc (.cells #[.string ⟨#[]⟩, .slice none 0 0] 24)).drewN q).alloc (.cells #[.string ⟨(Tg.rMet s.data.toList).toArray⟩, .slice none 0 0] 24)) ⟨w.heap.size, 1, none⟩ (.slice none 0 0) := (c1.drewN q).alloc _
        have bx : Blk (((w.alloc (.cells #[.string ⟨#[]⟩, .slice none 0 0] 24)).drewN q).alloc (.cells #[.string ⟨(Tg.rMet s.data.toList).toArray⟩, .slice none 0 0] 24)) (w.heap.size + 1) 24 #[.string ⟨(Tg.rMet s.data.toList).toArray⟩, .slice none 0 0] := by
          have h := Blk.new ((w.alloc (.cells #[.string ⟨#[]⟩, .slice none 0 0] 24)).drewN q) 24 #[.string ⟨(Tg.rMet s.data.toList).toArray⟩, .slice none 0 0]
          simpa using h
        have hB2 : Below w.heap.size w (((w.alloc (.cells #[.string ⟨#[]⟩, .slice none 0 0] 24)).drewN q).alloc (.cells #[.string ⟨(Tg.rMet s.data.toList).toArray⟩, .slice none 0 0] 24)) := (below_dN hB0 q).alloc (by simp) _
        have hz2 : (((w.alloc (.cells #[.string ⟨#[]⟩, .slice none 0 0] 24)).drewN q).alloc (.cells #[.string ⟨(Tg.rMet s.data.toList).toArray⟩, .slice none 0 0] 24)).heap.size = w.heap.size + 1 + 1 := by simp
        go_wp2_with fail
        rw [HNN.out]
        obtain ⟨w3, hw3⟩ : ∃ w3, ((w.alloc (.cells #[.string ⟨#[]⟩, .slice none 0 0] 24)).drewN q).alloc (.cells #[.string ⟨(Tg.rMet s.data.toList).toArray⟩, .slice none 0 0] 24) = w3 := ⟨_, rfl⟩
        rw [hw3] at d0 d1 bx hB2 hz2
        try rw [hw3]
        clear hw3 HNN hC
        go_loopw [5, 8, 9, 10, 11, 12, 13, 14] (fun rest more _ _ _ _ _ _ wr => ∃ (done : List (List UInt8)) (rem : ByteArray) (mr : Bool) (v : Value), rest = .string rem ∧ more = .bool mr ∧ done ++ (if mr then Tg.splitAll rem.data.toList else []) = Tg.splitAll nn.data.toList ∧ done.all Tg.isKv = true ∧ rem.size ≤ 5000 ∧ Blk wr (w.heap.size + 1) 24 #[.string ⟨(Tg.rMet s.data.toList).toArray⟩, v] ∧ Row wr (w.heap.size + 1 + 1) v (done.map Tg.lmOf) ∧ Cl wr ⟨w.heap.size, 0, none⟩ (.string ⟨#[]⟩) ∧ Cl wr ⟨w.heap.size, 1, none⟩ (.slice none 0 0) ∧ Below w.heap.size w wr ∧ w.heap.size + 1 + 1 ≤ wr.heap.size) (fun rest more _ _ _ _ _ _ _ => loopM more rest)
        case atStart => exact ⟨[], nn, true, .slice none 0 0, rfl, rfl, rfl, rfl, hnz, bx, Row.nil _ _, d0, d1, hB2, by omega⟩
        case round =>
          obtain ⟨done, rem, mr, v, rfl, rfl, hdone, hkv, hrem, hbx, hrow, k0, k1, hB, hsz⟩ := hrel
          have HD := Lib.hid hdone
          have HKV := Lib.hid hkv
          clear hdone hkv
          obtain ⟨dl, hdl⟩ : ∃ dl, done.map Tg.lmOf = dl := ⟨_, rfl⟩
          have hdz : dl.length = done.length := by rw [← hdl, List.length_map]
          have hdc : done.length + (if mr then 1 else 0) ≤ 5001 := by
            have := congrArg List.length HD.out
            rw [List.length_append] at this
            cases mr
            · simp at this ⊢; omega
            · have h1 : 1 ≤ (Tg.splitAll rem.data.toList).length := by
                obtain ⟨_, _, _, _, _, _, h, _⟩ := Tg.part_step rem
                rw [h]; simp
              simp at this ⊢; omega
          rw [hdl] at hrow
          have HDL := Lib.hid hdl
          have HDZ := Lib.hid hdz
          clear hdl hdz
          cases mr with
          | false =>
            have hdn : done = Tg.splitAll nn.data.toList := by have := HD.out; simpa using this
            obtain ⟨a1, cap1, rfl, hlab⟩ := hrow.labs
            have hbc : wr.cell? ⟨w.heap.size + 1, 1, none⟩ = some (.slice a1 dl.length cap1) := (hbx.cl 1 _ rfl).1
            have hbm : wr.cell? ⟨w.heap.size + 1, 0, none⟩ = some (.string ⟨(Tg.rMet s.data.toList).toArray⟩) := (hbx.cl 0 _ rfl).1
            have HLB : Hid (Tg.labs dl = Tg.dLabs s.data.toList) := by
              show _ = _
              rw [HLS'.out, ← HDL.out, hdn]
              exact Tg.labs_lm _ fun p hp => Nat.le_trans (HSM.out p hp) (by omega)
            have HALL : Hid ((Tg.splitAll nn.data.toList).all Tg.isKv = true) := by show _ = _; rw [← hdn]; exact HKV.out
            clear hdn
            have hG := Lib.hid (refGood_any ⟨(Tg.rMet s.data.toList).toArray⟩ (by rw [Lib.size_eq]; unfold maxLen; simp only; omega) a1 dl.length cap1 (Tg.fnOf dl) (by have := HDZ.out; unfold maxLen; simp at hdc; omega) wr hlab)
            rw [Tg.upto_fnOf, HLB.out] at hG
            have HRW := Lib.hid hrow
            clear hrow hlab
            go_wp2_with fail
            refine hG.out.mono ?_
            rintro e w3 ⟨rfl, hb3⟩
            have hB3 : Below w.heap.size w w3 := hB.trans (hb3.mono hB.size)
            have HR3 := Lib.hid (HRW.out.below hb3 (Nat.le_refl _))
            clear HRW
            have bx3 := hbx.below hb3 (by omega)
            have e0 := k0.below hb3 (by show w.heap.size < _; omega)
            have e1 := k1.below hb3 (by show w.heap.size < _; omega)
            have e0c := e0.1
            have e0f := e0.2
            have e1c := e1.1
            have e1f := e1.2
            have x0c := (bx3.cl 0 _ rfl).1
            have x1c := (bx3.cl 1 _ rfl).1
            cases hgd : Tg.goodB ⟨(Tg.rMet s.data.toList).toArray⟩ (Tg.dLabs s.data.toList) with
            | false =>
              have HR : Hid (Tg.dOk s.data.toList = false) := by show _ = _; rw [HOK.out, hgd, Bool.and_false]
              clear HOK
              go_wp2
              obtain ⟨f0, f1⟩ := two_set (x0 := .string ⟨#[]⟩) (x1 := .slice none 0 0) e0 e1
              refine bodyPost_ret (v := .tuple #[.agg #[.string ⟨#[]⟩, .slice none 0 0], .bool false]) (by simp [results, Tryd.results13, go_sem, f0, f1]) rfl ⟨⟨#[]⟩, .slice none 0 0, [], by rw [HR.out], Row.nil _ _, ?_, (fun h => by rw [HR.out] at h; cases h)⟩
              exact (hB3.setCell (p := ⟨w.heap.size, 0, none⟩) (Nat.le_refl _) _).setCell (p := ⟨w.heap.size, 1, none⟩) (Nat.le_refl _) _
            | true =>
              rw [hgd, HALL.out] at HOK
              have HR : Hid (Tg.dOk s.data.toList = true) := by show _ = _; rw [HOK.out]; rfl
              clear HOK
              go_wp2
              obtain ⟨f0, f1⟩ := two_set (x0 := .string ⟨(Tg.rMet s.data.toList).toArray⟩) (x1 := .slice a1 dl.length cap1) e0 e1
              refine bodyPost_ret (v := .tuple #[.agg #[.string ⟨(Tg.rMet s.data.toList).toArray⟩, .slice a1 dl.length cap1], .bool true]) (by simp [results, Tryd.results13, go_sem, f0, f1]) rfl ⟨_, .slice a1 dl.length cap1, dl, by rw [HR.out], ?_, ?_, fun _ => ⟨rfl, HLB.out⟩⟩
              · refine (HR3.out.stay fun g hg _ => ?_).base (show w.heap.size ≤ w.heap.size + 1 + 1 by omega)
                rw [heap_set (p := ⟨w.heap.size, 1, none⟩) (show w.heap.size ≠ g by omega), heap_set (p := ⟨w.heap.size, 0, none⟩) (show w.heap.size ≠ g by omega)]
              · exact (hB3.setCell (p := ⟨w.heap.size, 0, none⟩) (Nat.le_refl _) _).setCell (p := ⟨w.heap.size, 1, none⟩) (Nat.le_refl _) _
          | true =>
            have hdone : done ++ Tg.splitAll rem.data.toList = Tg.splitAll nn.data.toList := HD.out
            have HC1 := fun w1 => Lib.hid (refCut_any rem 44 w1 (by unfold maxLen; omega))
            obtain ⟨one, bh, cm, ho, hb, hcm, hst, ho1, hb1, hb2⟩ := Tg.part_step rem
            rw [ho, hb, hcm] at HC1
            have HC2 := fun w1 => Lib.hid (refCut_any one 61 w1 (by unfold maxLen; omega))
            have hlv : (Tg.lmOf one.data.toList).1 = Tg.labOf one.data.toList := Tg.lmOf_val (by rw [Tg.len_data]; omega)
            have hy1 : (⟨(Lib.cut one.data.toList [61]).1.toArray⟩ : ByteArray) = (Tg.lmOf one.data.toList).1.1 := by rw [hlv]; rfl
            have hy2 : (⟨(Lib.cut one.data.toList [61]).2.1.toArray⟩ : ByteArray) = (Tg.lmOf one.data.toList).1.2 := by rw [hlv]; rfl
            have hy3 : (Lib.cut one.data.toList [61]).2.2 = Tg.isKv one.data.toList := rfl
            rw [hy1, hy2, hy3] at HC2
            rw [hst] at hdone
            have HDN : Hid ((done ++ [one.data.toList]) ++ (if cm then Tg.splitAll bh.data.toList else []) = Tg.splitAll nn.data.toList) := by show _ = _; rw [← hdone]; simp
            have HNX : Hid ((done ++ [one.data.toList]).map Tg.lmOf = dl ++ [Tg.lmOf one.data.toList]) := by show _ = _; rw [List.map_append, HDL.out]; rfl
            have HKX : Hid ((done ++ [one.data.toList]).all Tg.isKv = Tg.isKv one.data.toList) := by show _ = _; rw [List.all_append, HKV.out]; simp
            have HB2 := Lib.hid hb2
            have hdc' : dl.length ≤ 5000 := by have := HDZ.out; simp at hdc; omega
            clear ho hb hcm hlv hy1 hy2 hy3 hst hdone HD HDL HKV hb2 hdc
            generalize Tg.lmOf one.data.toList = x at HC2 HNX
            have hbc : wr.cell? ⟨w.heap.size + 1, 1, none⟩ = some v := (hbx.cl 1 _ rfl).1
            have HRW := Lib.hid hrow
            clear hrow
            cases hkv1 : Tg.isKv one.data.toList with
            | false =>
              rw [hkv1] at HC2 HKX
              have HR : Hid (Tg.dOk s.data.toList = false) := by
                show _ = _
                have h0 : (Tg.splitAll nn.data.toList).all Tg.isKv = false := by rw [← HDN.out, List.all_append, HKX.out]; rfl
                rw [HOK.out, h0]; rfl
              clear HOK HKX HNX HDN HRW
              go_wp2_with fail
              refine (HC1 _).out.mono ?_
              rintro e w4 ⟨rfl, n1, rfl⟩
              go_wp2_with fail
              refine (HC2 _).out.mono ?_
              rintro e w5 ⟨rfl, n2, rfl⟩
              have e0 : Cl (wr.drewN (n1 + n2)) ⟨w.heap.size, 0, none⟩ (.string ⟨#[]⟩) := k0.drewN (n1 + n2)
              have e1 : Cl (wr.drewN (n1 + n2)) ⟨w.heap.size, 1, none⟩ (.slice none 0 0) := k1.drewN (n1 + n2)
              have e0c := e0.1
              have e0f := e0.2
              have e1c := e1.1
              have e1f := e1.2
              go_wp2
              obtain ⟨f0, f1⟩ := two_set (x0 := .string ⟨#[]⟩) (x1 := .slice none 0 0) e0 e1
              refine bodyPost_ret (v := .tuple #[.agg #[.string ⟨#[]⟩, .slice none 0 0], .bool false]) (by simp [results, Tryd.results13, go_sem, f0, f1]) rfl ⟨⟨#[]⟩, .slice none 0 0, [], by rw [HR.out], Row.nil _ _, ?_, (fun h => by rw [HR.out] at h; cases h)⟩
              exact ((below_dN hB (n1 + n2)).setCell (p := ⟨w.heap.size, 0, none⟩) (Nat.le_refl _) _).setCell (p := ⟨w.heap.size, 1, none⟩) (Nat.le_refl _) _
            | true =>
              rw [hkv1] at HC2 HKX
              go_wp2_with fail
              refine (HC1 _).out.mono ?_
              rintro e w4 ⟨rfl, n1, rfl⟩
              go_wp2_with fail
              refine (HC2 _).out.mono ?_
              rintro e w5 ⟨rfl, n2, rfl⟩
              have hrow5 : (wr.drewN (n1 + n2)).ownsRow (w.heap.size + 1 + 1) 37 2 v dl.length (Tg.cells dl) := HRW.out
              have hrowd : Row wr (w.heap.size + 1 + 1) v dl := HRW.out
              go_wp2_with (at_builtin; refine wpList_append_own _ rfl _ _ 22 rfl (w.heap.size + 1 + 1) 37 i0 (.agg #[.string ⟨#[]⟩, .string ⟨#[]⟩]) 2 32 Tryd.underlying22 hi hz0' hz1 hz2' rfl (by decide) _ _ _ rfl (hrow5.alloc _) ⟨wr.heap.size, 0, none⟩ 1 1 [.string x.1.1, .string x.1.2] rfl rfl (news2 (wr.drewN (n1 + n2)) _ _ _) ?c2 ?c3 ?c4 ?c5 ?_)
              case c2 => intro u hu; simp at hu; rcases hu with rfl | rfl <;> rfl
              case c3 => unfold maxLen; omega
              case c4 => omega
              case c5 => simp; omega
              intro v' w6 hown' hgrow _
              have hlow := below_base hrowd hgrow hsz
              obtain ⟨g', cap', rfl⟩ := ownsRow_succ hown'
              have HR6 := Lib.hid (row_snoc hown')
              have hbx6 : Blk w6 (w.heap.size + 1) 24 #[.string ⟨(Tg.rMet s.data.toList).toArray⟩, v] := (hlow _ (by omega)).trans hbx
              have k06 := k0.block (hlow w.heap.size (by omega))
              have k16 := k1.block (hlow w.heap.size (by omega))
              have hbc6 := (hbx6.cl 1 _ rfl).1
              have hbf6 := (hbx6.cl 1 _ rfl).2
              have hsz6 : w.heap.size + 1 + 1 ≤ w6.heap.size := by have := hgrow.size; simp at this; omega
              have hB6 : Below w.heap.size w w6 := ((below_dN hB (n1 + n2)).alloc (by show _ ≤ wr.heap.size; omega) _).grown hgrow (by simp; omega) (fun g hg => by have := (World.ownsRow.lt hrowd g hg).1; omega)
              clear hown' hgrow hrow5 hrowd hbc
              go_wp2
              go_roundw
              case rel =>
                refine ⟨done ++ [one.data.toList], bh, cm, .slice (some ⟨g', 0, none⟩) (dl.length + 1) cap', rfl, rfl, HDN.out, HKX.out, by omega, ?_, ?_, k06.other (addr_ne (by omega)) _, k16.other (addr_ne (by omega)) _, hB6.setCell (p := ⟨w.heap.size + 1, 1, none⟩) (Nat.le_succ _) _, by simp [World.setCell]; omega⟩
                · exact hbx6.set 1 _
                · rw [HNX.out]
                  exact HR6.out.stay fun g hg _ => heap_set (p := ⟨w.heap.size + 1, 1, none⟩) (show w.heap.size + 1 ≠ g by omega)
              case measure =>
                cases cm with
                | false => simp [loopM]
                | true => have := HB2.out rfl; simp [loopM]; omega
end Go.Proofs.YtaoojglepihjeaaDoor
