/- The law TagGood, of any series. -/
import Derived.Test.YtaoojglepihjeaaDoorTgReadsWalk
import Derived.Test.YtaoojglepihjeaaDoorTgRefText
import Derived.Test.YtaoojglepihjeaaDoorTgGood
namespace Go.Proofs.YtaoojglepihjeaaDoor
open Go.RowKit Go.Shelf
set_option maxRecDepth 100000 in
set_option maxHeartbeats 1000000 in
theorem few_any (m : ByteArray) (a : Option Addr) (len cap : Nat) (w : World) (hm : m.size ≤ maxLen) (hlen : len ≤ maxLen) :
    Calls Tryd.prog 6 #[.agg #[.string m, .slice a len cap]] w fun e w' => e = .returned (.bool (decide (len ≤ 20) && decide (m.size ≤ 200))) ∧ Below w.heap.size w w' := by
  unfold maxLen at hm hlen
  have hB0 : Below w.heap.size w (w.alloc (.cells #[.string m, .slice a len cap] 24)) := (Below.refl _ w).alloc (Nat.le_refl _) _
  by_cases h1 : len ≤ 20
  · have h1' : (len : Int) ≤ 20 := by omega
    by_cases h2 : m.size ≤ 200
    · have h2' : (m.size : Int) ≤ 200 := by omega
      rw [decide_eq_true h1, decide_eq_true h2]
      go_enter Tryd.func6, Tryd.ntmps6
      go_wp2
      go_ret
      exact ⟨rfl, hB0⟩
    · have h2' : ¬ (m.size : Int) ≤ 200 := by omega
      rw [decide_eq_true h1, decide_eq_false h2]
      go_enter Tryd.func6, Tryd.ntmps6
      go_wp2
      go_ret
      exact ⟨rfl, hB0⟩
  · have h1' : ¬ (len : Int) ≤ 20 := by omega
    rw [decide_eq_false h1]
    go_enter Tryd.func6, Tryd.ntmps6
    go_wp2
    go_ret
    exact ⟨rfl, hB0⟩
namespace Tg
theorem text_len {m : ByteArray} (hm : m.size ≤ 24) {L : List Lab} (hl : L.length ≤ 6) (h : ∀ x ∈ L, labB x = true) : (textL m.data.toList L).length ≤ 400 := by
  have hx : L = labsS (L.map fun x => if h : x.1.size ≤ 24 ∧ x.2.size ≤ 24 then ⟨x, h⟩ else sDef) := by
    unfold labsS
    rw [List.map_map]
    conv => lhs; rw [← List.map_id L]
    apply List.map_congr_left
    intro x hx
    have hb := h x hx
    have h1 := (nm_len hb).2
    have h2 := (val_len hb).2
    unfold nm at h1
    rw [← Lib.size_eq] at h1 h2
    simp [h1, h2]
  have := openT_le (L.map fun x => if h : x.1.size ≤ 24 ∧ x.2.size ≤ 24 then ⟨x, h⟩ else sDef)
  rw [← hx, List.length_map] at this
  unfold textL
  rw [List.length_append, List.length_append, len_data]
  split <;> simp <;> omega
end Tg
set_option maxRecDepth 100000 in
set_option maxHeartbeats 4000000 in
theorem tagGood_walk (m : ByteArray) (a : Option Addr) (len cap : Nat) (f : Nat → Tg.LabM) (w : World) (hE : EnvM w) (hm : m.size ≤ maxLen) (hlen : len ≤ maxLen) (hI : LabsAt (·.1) w.heap.size w a len f) :
    Calls Tryd.prog 3 #[.agg #[.string m, .slice a len cap]] w fun e w' => e = .returned (.bool true) ∧ Below w.heap.size w w' := by
  have hB0 : Below w.heap.size w (w.alloc (.cells #[.string m, .slice a len cap] 24)) := (Below.refl _ w).alloc (Nat.le_refl _) _
  have bx0 := Blk.new w 24 #[.string m, .slice a len cap]
  have hs0 : (w.alloc (.cells #[.string m, .slice a len cap] 24)).heap.size = w.heap.size + 1 := by simp
  have HI := Lib.hid hI
  clear hI
  go_enter Tryd.func3, Tryd.ntmps3
  go_wp2_with fail
  refine (awake_any _).mono ?_
  rintro e w1 ⟨rfl, hb1⟩
  rw [hs0] at hb1
  have hB1 : Below w.heap.size w w1 := hB0.trans (hb1.mono (by omega))
  have hz1 : w.heap.size + 1 ≤ w1.heap.size := by have := hb1.size; omega
  have bx1 := bx0.below hb1 (by omega)
  have c10 := (bx1.cl 0 _ rfl).1
  have c11 := (bx1.cl 1 _ rfl).1
  have hF := Lib.hid (few_any m a len cap w1 hm hlen)
  generalize (decide (len ≤ 20) && decide (m.size ≤ 200)) = fw at hF
  cases fw with
  | false =>
    go_wp2_with fail
    refine hF.out.mono ?_
    rintro e w2 ⟨rfl, hb2⟩
    go_wp2_with fail
    refine (awake_any _).mono ?_
    rintro e w3 ⟨rfl, hb3⟩
    go_wp2
    go_ret
    exact ⟨rfl, (hB1.trans (hb2.mono hB1.size)).trans (hb3.mono (Nat.le_trans hB1.size hb2.size))⟩
  | true =>
    go_wp2_with fail
    refine hF.out.mono ?_
    rintro e w2 ⟨rfl, hb2⟩
    have hB2 : Below w.heap.size w w2 := hB1.trans (hb2.mono hB1.size)
    have hz2 : w.heap.size + 1 ≤ w2.heap.size := by have := hb2.size; omega
    have bx2 := bx1.below hb2 (by omega)
    have c20 := (bx2.cl 0 _ rfl).1
    have c21 := (bx2.cl 1 _ rfl).1
    have hG := Lib.hid (refGood_any m hm a len cap f hlen w2 ((HI.out.below hB2).mono hB2.size))
    have hG2 := fun w3 h => Lib.hid (good_any m hm a len cap f w3 h)
    have HF := fun h => Lib.hid (Tg.goodB_facts (m := m) (L := Tg.labs (Tg.upto f len)) h)
    have HTR := fun h => Lib.hid (Tg.text_read m (Tg.labs (Tg.upto f len)) h)
    generalize Tg.goodB m (Tg.labs (Tg.upto f len)) = gd at hG hG2 HF HTR
    go_wp2_with fail
    refine hG.out.mono ?_
    rintro e w3 ⟨rfl, hb3⟩
    have hB3 : Below w.heap.size w w3 := hB2.trans (hb3.mono hB2.size)
    have hz3 : w.heap.size + 1 ≤ w3.heap.size := by have := hb3.size; omega
    have bx3 := bx2.below hb3 (by omega)
    have c30 := (bx3.cl 0 _ rfl).1
    have c31 := (bx3.cl 1 _ rfl).1
    have hG3 := hG2 w3 ((HI.out.below hB3).mono hB3.size)
    go_wp2_with fail
    refine hG3.out.mono ?_
    rintro e w4 ⟨rfl, hb4⟩
    have hB4 : Below w.heap.size w w4 := hB3.trans (hb4.mono hB3.size)
    have hz4 : w.heap.size + 1 ≤ w4.heap.size := by have := hb4.size; omega
    have bx4 := bx3.below hb4 (by omega)
    have c40 := (bx4.cl 0 _ rfl).1
    have c41 := (bx4.cl 1 _ rfl).1
    clear hG hG2 hG3 c10 c11 c20 c21 c30 c31 hb1 hb2 hb3 hb4 bx0 bx1 bx2 bx3
    cases gd with
    | false =>
      go_wp2
      go_ret
      exact ⟨rfl, hB4⟩
    | true =>
      obtain ⟨hm24, hl6, hall⟩ := (HF rfl).out
      obtain ⟨hok, hmet, hlabs⟩ := (HTR rfl).out
      have hl6' : len ≤ 6 := by simpa [Tg.labs, Tg.upto_len] using hl6
      have HALL := Lib.hid hall
      have HTX := Lib.hid (text_good m hm24 a len cap f hl6' w4 ((HI.out.below hB4).mono hB4.size) hall)
      have HTY := fun w5 h => Lib.hid (refText_any m hm24 a len cap f hl6' w5 h hall)
      obtain ⟨tx, htx, htd⟩ : ∃ tx : ByteArray, (⟨(Tg.textL m.data.toList (Tg.labs (Tg.upto f len))).toArray⟩ : ByteArray) = tx ∧ tx.data.toList = Tg.textL m.data.toList (Tg.labs (Tg.upto f len)) := ⟨_, rfl, rfl⟩
      have htz : tx.size ≤ 5000 := by
        have := Tg.text_len hm24 hl6 hall
        rw [Lib.size_eq, htd]; omega
      rw [← htd] at hok hmet hlabs
      have HRD := fun w5 hE5 => Lib.hid (read_yes tx w5 hE5 htz hok)
      rw [hmet, hlabs, show (⟨m.data.toList.toArray⟩ : ByteArray) = m from by simp] at HRD
      rw [htx] at HTX HTY
      clear HF HTR hok hmet hlabs hall htx htd
      go_wp2_with fail
      refine HTX.out.mono ?_
      rintro e w5 ⟨rfl, hb5⟩
      have hB5 : Below w.heap.size w w5 := hB4.trans (hb5.mono hB4.size)
      have bx5 := bx4.below hb5 (by omega)
      have hz5 : w.heap.size + 1 ≤ w5.heap.size := by have := hb5.size; omega
      have HRD5 := HRD w5 (hE.below hB5)
      go_wp2_with fail
      refine HRD5.out.mono ?_
      rintro e w6 ⟨a1, n1, cap1, r1, rfl, hrow, hb6, hl1⟩
      have HRW := Lib.hid hrow
      have HL1 := Lib.hid hl1
      have hn1 : n1 ≤ 6 := by
        have h := hrow.labsAt.1
        have h' := congrArg List.length hl1
        unfold Tg.labs at h' hl6
        rw [List.length_map] at h'
        omega
      clear hrow hl1
      have hB6 : Below w.heap.size w w6 := hB5.trans (hb6.mono hB5.size)
      have bx6 := (bx5.below hb6 (by omega)).alloc (.cells #[.string m, .slice a1 n1 cap1] 24)
      have by6 := Blk.new w6 24 #[.string m, .slice a1 n1 cap1]
      have hz6 : w.heap.size + 1 ≤ w6.heap.size := by have := hb6.size; omega
      have hB7 : Below w.heap.size w (w6.alloc (.cells #[.string m, .slice a1 n1 cap1] 24)) := hB6.alloc hB6.size _
      have HTY7 := HTY _ ((HI.out.below hB7).mono hB7.size)
      have c60 := (bx6.cl 0 _ rfl).1
      have c61 := (bx6.cl 1 _ rfl).1
      have RW7 := Lib.hid (HRW.out.alloc (.cells #[.string m, .slice a1 n1 cap1] 24))
      clear HRD HRD5 HTX HTY HRW c40 c41 bx4 bx5
      go_wp2_with fail
      refine HTY7.out.mono ?_
      rintro e w8 ⟨rfl, hb8⟩
      have hB8 : Below w.heap.size w w8 := hB7.trans (hb8.mono hB7.size)
      have bx8 := bx6.below hb8 (by simp; omega)
      have by8 := by6.below hb8 (by simp)
      have c80 := (bx8.cl 0 _ rfl).1
      have c81 := (bx8.cl 1 _ rfl).1
      have d80 := (by8.cl 0 _ rfl).1
      have d81 := (by8.cl 1 _ rfl).1
      have HRW8 := Lib.hid (RW7.out.below hb8 (Nat.le_refl _))
      have HSM := Lib.hid (refSame_any m a1 a cap1 cap n1 len (Tg.fnOf r1) f (by unfold maxLen; omega) w8 HRW8.out.labsAt.2 ((HI.out.below hB8).mono hB8.size) (by rw [HRW8.out.labsAt.1, Tg.upto_fnOf]; exact HL1.out))
      have htt : (tx.toList == tx.toList) = true := by simp
      clear HTY7 RW7 HRW8
      go_wp2_with fail
      refine HSM.out.mono ?_
      rintro e w9 ⟨rfl, hb9⟩
      go_wp2
      go_ret
      exact ⟨rfl, hB8.trans (hb9.mono hB8.size)⟩
end Go.Proofs.YtaoojglepihjeaaDoor
