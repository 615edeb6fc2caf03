/- The law TagReads, of any text. -/
import Derived.Test.YtaoojglepihjeaaDoorTgRefRead
import Derived.Test.YtaoojglepihjeaaDoorTgSame
import Derived.Test.YtaoojglepihjeaaDoorTgAwake
namespace Go.Proofs.YtaoojglepihjeaaDoor
open Go.RowKit Go.Shelf
abbrev Env := EnvM
theorem env_of {W : World} (h : ∃ m : Int, W.cell? ⟨0, 0, none⟩ = some (.int .i64 m)) : EnvM W := by
  refine ⟨?_, h⟩
  obtain ⟨m, h⟩ := h
  cases hb : W.heap[0]? with
  | none => simp [World.cell?, hb] at h
  | some o => exact (Array.getElem?_eq_some_iff.1 hb).1
namespace Tg
theorem goodB_facts {m : ByteArray} {L : List Lab} (h : goodB m L = true) : m.size ≤ 24 ∧ L.length ≤ 6 ∧ (∀ x ∈ L, labB x = true) := by
  obtain ⟨h1, h2, h3⟩ := goodB_parts h
  simp only [nameB, Bool.and_eq_true, decide_eq_true_eq] at h1
  exact ⟨by rw [Lib.size_eq]; exact h1.1.1.2, h2, goodFrom_all _ _ h3⟩
theorem rOk_good {l : List UInt8} (h : rOk l = true) : goodB ⟨(rMet l).toArray⟩ (rLabs l) = true := by
  unfold rOk at h
  rw [Bool.and_eq_true] at h
  exact h.2
end Tg
theorem read_no (s : ByteArray) (w : World) (hE : EnvM w) (hs : s.size ≤ 5000) (h : Tg.rOk s.data.toList = false) :
    Calls Tryd.prog 10 #[.string s] w fun e w' => ∃ a cap, e = .returned (.tuple #[.agg #[.string ⟨#[]⟩, .slice a 0 cap], .int .i64 2]) ∧ Below w.heap.size w w' := by
  refine (read_any s w hE hs).mono ?_
  rintro e w' ⟨m', v, r, rfl, hrow, hb, _, hF⟩
  obtain ⟨rfl, rfl⟩ := hF h
  obtain ⟨a, cap, rfl, _⟩ := hrow.labs
  exact ⟨a, cap, by rw [h]; rfl, hb⟩
theorem read_yes (s : ByteArray) (w : World) (hE : EnvM w) (hs : s.size ≤ 5000) (h : Tg.rOk s.data.toList = true) :
    Calls Tryd.prog 10 #[.string s] w fun e w' => ∃ a n cap r, e = .returned (.tuple #[.agg #[.string ⟨(Tg.rMet s.data.toList).toArray⟩, .slice a n cap], .int .i64 0]) ∧ Row w' w.heap.size (.slice a n cap) r ∧ Below w.heap.size w w' ∧ Tg.labs r = Tg.rLabs s.data.toList := by
  refine (read_any s w hE hs).mono ?_
  rintro e w' ⟨m', v, r, rfl, hrow, hb, hT, _⟩
  obtain ⟨rfl, hl⟩ := hT h
  obtain ⟨a, cap, rfl, _⟩ := hrow.labs
  exact ⟨a, _, cap, r, by rw [h]; rfl, hrow, hb, hl⟩
theorem refRead_no (s : ByteArray) (w : World) (hs : s.size ≤ 5000) (h : Tg.rOk s.data.toList = false) :
    Calls Tryd.prog 13 #[.string s] w fun e w' => ∃ m' a n cap, e = .returned (.tuple #[.agg #[.string m', .slice a n cap], .bool false]) ∧ Below w.heap.size w w' := by
  refine (refRead_any s w hs).mono ?_
  rintro e w' ⟨m', v, r, rfl, hrow, hb, _⟩
  obtain ⟨a, cap, rfl, _⟩ := hrow.labs
  exact ⟨m', a, _, cap, by rw [(Tg.read_same _).1, h], hb⟩
theorem refRead_yes (s : ByteArray) (w : World) (hs : s.size ≤ 5000) (h : Tg.rOk s.data.toList = true) :
    Calls Tryd.prog 13 #[.string s] w fun e w' => ∃ a n cap r, e = .returned (.tuple #[.agg #[.string ⟨(Tg.rMet s.data.toList).toArray⟩, .slice a n cap], .bool true]) ∧ Row w' w.heap.size (.slice a n cap) r ∧ Below w.heap.size w w' ∧ Tg.labs r = Tg.rLabs s.data.toList := by
  have hd : Tg.dOk s.data.toList = true := by rw [(Tg.read_same _).1, h]
  refine (refRead_any s w hs).mono ?_
  rintro e w' ⟨m', v, r, rfl, hrow, hb, hT⟩
  obtain ⟨rfl, hl⟩ := hT hd
  obtain ⟨a, cap, rfl, _⟩ := hrow.labs
  exact ⟨a, _, cap, r, by rw [hd], hrow, hb, by rw [hl, (Tg.read_same _).2 h]⟩
theorem Row.alloc {W : World} {B : Nat} {v : Value} {l : List Tg.LabM} (h : Row W B v l) (o : Obj) : Row (W.alloc o) B v l :=
  h.stay fun g _ hg => Below.heap_alloc W o g hg
/-- two rows with the same labels -/
theorem same_rows {B1 B2 : Nat} (m : ByteArray) (a1 a2 : Option Addr) (n1 n2 c1 c2 : Nat) (r1 r2 : List Tg.LabM) (w : World) (h1 : Row w B1 (.slice a1 n1 c1) r1) (h2 : Row w B2 (.slice a2 n2 c2) r2) (hn : n1 ≤ maxLen) (he : Tg.labs r1 = Tg.labs r2) :
    Calls Tryd.prog 12 #[.agg #[.string m, .slice a1 n1 c1], .agg #[.string m, .slice a2 n2 c2]] w fun e w' => e = .returned (.bool true) ∧ Below w.heap.size w w' := by
  obtain ⟨e1, l1⟩ := h1.labsAt
  obtain ⟨e2, l2⟩ := h2.labsAt
  refine refSame_any m a1 a2 c1 c2 n1 n2 (Tg.fnOf r1) (Tg.fnOf r2) hn w l1 l2 ?_
  rw [e1, e2, Tg.upto_fnOf, Tg.upto_fnOf]
  exact he
set_option maxRecDepth 100000 in
set_option maxHeartbeats 4000000 in
theorem tagReads_walk (s : ByteArray) (w : World) (hE : EnvM w) (hs : s.size ≤ maxLen) :
    Calls Tryd.prog 4 #[.string s] w fun e w' => e = .returned (.bool true) ∧ Below w.heap.size w w' := by
  unfold maxLen at hs
  go_enter Tryd.func4, Tryd.ntmps4
  go_wp2_with fail
  refine (awake_any _).mono ?_
  rintro e w1 ⟨rfl, hb1⟩
  by_cases h2 : 2000 < s.size
  · have h2' : (2000 : Int) < (s.size : Int) := by omega
    go_wp2_with fail
    refine (awake_any _).mono ?_
    rintro e w2 ⟨rfl, hb2⟩
    go_wp2
    go_ret
    exact ⟨rfl, hb1.trans (hb2.mono hb1.size)⟩
  · have h2' : ¬ (2000 : Int) < (s.size : Int) := by omega
    cases hok : Tg.rOk s.data.toList with
    | false =>
      have HR := Lib.hid (read_no s w1 (hE.below hb1) (by omega) hok)
      have HD := fun w2 => Lib.hid (refRead_no s w2 (by omega) hok)
      go_wp2_with fail
      refine HR.out.mono ?_
      rintro e w2 ⟨a1, cap1, rfl, hb2⟩
      have hB2 : Below w.heap.size w w2 := hb1.trans (hb2.mono hb1.size)
      have bx := Blk.new w2 24 #[.string ⟨#[]⟩, .slice a1 0 cap1]
      have hB3 : Below w.heap.size w (w2.alloc (.cells #[.string ⟨#[]⟩, .slice a1 0 cap1] 24)) := hB2.alloc hB2.size _
      go_wp2_with fail
      refine (HD _).out.mono ?_
      rintro e w4 ⟨m', a2, n2, cap2, rfl, hb4⟩
      have hB4 : Below w.heap.size w w4 := hB3.trans (hb4.mono hB3.size)
      have bx4 := (bx.below hb4 (by simp)).alloc (.cells #[.string m', .slice a2 n2 cap2] 24)
      have c0 := (bx4.cl 0 _ rfl).1
      have c1 := (bx4.cl 1 _ rfl).1
      have hB5 : Below w.heap.size w (w4.alloc (.cells #[.string m', .slice a2 n2 cap2] 24)) := hB4.alloc hB4.size _
      go_wp2
      go_ret
      exact ⟨rfl, hB5⟩
    | true =>
      obtain ⟨hm24, hl6, hall⟩ := Tg.goodB_facts (Tg.rOk_good hok)
      have HALL := Lib.hid hall
      have HTX := Lib.hid (Tg.read_text _ hok)
      have HR := Lib.hid (read_yes s w1 (hE.below hb1) (by omega) hok)
      have HD := fun w2 => Lib.hid (refRead_yes s w2 (by omega) hok)
      clear hall
      go_wp2_with fail
      refine HR.out.mono ?_
      rintro e w2 ⟨a1, n1, cap1, r1, rfl, hrow2, hb2, hl1⟩
      have hn1 : n1 ≤ 6 := by
        have h := hrow2.labsAt.1
        have h' := congrArg List.length hl1
        unfold Tg.labs at h'
        rw [List.length_map] at h'
        omega
      have HL1 := Lib.hid hl1
      have HW2 := Lib.hid hrow2
      clear hl1 hrow2
      have hB2 : Below w.heap.size w w2 := hb1.trans (hb2.mono hb1.size)
      have bx := Blk.new w2 24 #[.string ⟨(Tg.rMet s.data.toList).toArray⟩, .slice a1 n1 cap1]
      have hB3 : Below w.heap.size w (w2.alloc (.cells #[.string ⟨(Tg.rMet s.data.toList).toArray⟩, .slice a1 n1 cap1] 24)) := hB2.alloc hB2.size _
      go_wp2_with fail
      refine (HD _).out.mono ?_
      rintro e w4 ⟨a2, n2, cap2, r2, rfl, hrow4, hb4, hl2⟩
      have hB4 : Below w.heap.size w w4 := hB3.trans (hb4.mono hB3.size)
      have bx4 := (bx.below hb4 (by simp)).alloc (.cells #[.string ⟨(Tg.rMet s.data.toList).toArray⟩, .slice a2 n2 cap2] 24)
      have by4 := Blk.new w4 24 #[.string ⟨(Tg.rMet s.data.toList).toArray⟩, .slice a2 n2 cap2]
      have c0 := (bx4.cl 0 _ rfl).1
      have c1 := (bx4.cl 1 _ rfl).1
      have hB5 : Below w.heap.size w (w4.alloc (.cells #[.string ⟨(Tg.rMet s.data.toList).toArray⟩, .slice a2 n2 cap2] 24)) := hB4.alloc hB4.size _
      have R1 := Lib.hid (((HW2.out.alloc (.cells #[.string ⟨(Tg.rMet s.data.toList).toArray⟩, .slice a1 n1 cap1] 24)).below hb4 (Nat.le_refl _)).alloc (.cells #[.string ⟨(Tg.rMet s.data.toList).toArray⟩, .slice a2 n2 cap2] 24))
      have R2 := Lib.hid (hrow4.alloc (.cells #[.string ⟨(Tg.rMet s.data.toList).toArray⟩, .slice a2 n2 cap2] 24))
      have HS := Lib.hid (same_rows ⟨(Tg.rMet s.data.toList).toArray⟩ a1 a2 n1 n2 cap1 cap2 r1 r2 _ R1.out R2.out (by unfold maxLen; omega) (HL1.out.trans hl2.symm))
      have d0 := (by4.cl 0 _ rfl).1
      have d1 := (by4.cl 1 _ rfl).1
      clear hrow4 hl2 R2 HW2
      go_wp2_with fail
      refine HS.out.mono ?_
      rintro e w6 ⟨rfl, hb6⟩
      have hB6 : Below w.heap.size w w6 := hB5.trans (hb6.mono hB5.size)
      have bx6 := bx4.below hb6 (by have := hb4.size; simp at this ⊢; omega)
      have c60 := (bx6.cl 0 _ rfl).1
      have c61 := (bx6.cl 1 _ rfl).1
      have HT := Lib.hid (text_row ⟨(Tg.rMet s.data.toList).toArray⟩ hm24 a1 n1 cap1 r1 w6 (R1.out.below hb6 (Nat.le_refl _)) hn1 (by rw [HL1.out]; exact HALL.out))
      rw [HL1.out, show (⟨(Tg.rMet s.data.toList).toArray⟩ : ByteArray).data.toList = Tg.rMet s.data.toList from rfl, HTX.out, show (⟨s.data.toList.toArray⟩ : ByteArray) = s from by simp] at HT
      clear R1 HS
      go_wp2_with fail
      refine HT.out.mono ?_
      rintro e w7 ⟨rfl, hb7⟩
      have hss : (s.toList == s.toList) = true := by simp
      go_wp2
      go_ret
      exact ⟨rfl, hB6.trans (hb7.mono hB6.size)⟩
end Go.Proofs.YtaoojglepihjeaaDoor
