
/- Racks of int,int: New, Len, Put, Drop, Height. -/
import Derived.Test.YtahkmdbbicpfcaaRkIWithout
namespace Go.Proofs.Ytahkmdbbicpfcaa
open Go.RowKit
namespace Rk
/-- the rack at R has the tree T -/
def RakI (w : World) (R : Nat) (T : Tr Int Int) : Prop := ∃ p, Blk w R 73 #[.func (.func 38) #[] #[], .pointer p] ∧ InI w T p
theorem RakI.keep {w w' : World} {R : Nat} {T : Tr Int Int} (h : RakI w R T) (hk : Keeps 76 w w') (hR : w'.heap[R]? = w.heap[R]?) : RakI w' R T := by
  obtain ⟨p, hb, hi⟩ := h
  exact ⟨p, hR.trans hb, hi.keeps hk⟩
theorem RakI.lt {w : World} {R : Nat} {T : Tr Int Int} (h : RakI w R T) : R < w.heap.size := by
  obtain ⟨p, hb, hi⟩ := h
  exact hb.lt
theorem RakI.below {w w' : World} {R : Nat} {T : Tr Int Int} (h : RakI w R T) (hb : Below w.heap.size w w') : RakI w' R T := h.keep (Keeps.below hb) (hb.block R h.lt)
/-- another rack's call lets it be -/
theorem RakI.grown {w w' : World} {R R2 : Nat} {t2 : TypeId} {cs2 : Array Value} {T : Tr Int Int} (h : RakI w R T) (hg : w.grownBy w' (some R2)) (h2 : Blk w R2 t2 cs2) (ht : 76 ≠ t2) (hne : R ≠ R2) : RakI w' R T :=
  h.keep (Keeps.grown hg h2 ht) (hg.block R h.lt (fun e => hne (by injection e)))
theorem isnil_I (w : World) : (binOp .eql 69 (.func (.func 38) #[] #[]) .nilFunc).run Try.prog w = .ok (.bool false) w := by kernel_rfl
set_option maxRecDepth 100000 in
set_option maxHeartbeats 1000000 in
theorem new_I (w : World) : Calls Try.prog 37 #[.func (.func 38) #[] #[]] w fun e w' => e = .returned (.pointer (some ⟨w.heap.size, 0, none⟩)) ∧ RakI w' w.heap.size .nil ∧ Below w.heap.size w w' := by
  have HFIN : Hid (RakI (w.alloc (.cells #[.func (.func 38) #[] #[], .pointer none] 73)) w.heap.size .nil ∧ Below w.heap.size w (w.alloc (.cells #[.func (.func 38) #[] #[], .pointer none] 73))) :=
    ⟨⟨none, Blk.new w _ _, rfl⟩, (Below.refl _ _).alloc (Nat.le_refl _) _⟩
  have hnil := isnil_I
  go_enter Try.func37, Try.ntmps37
  go_wp2
  go_ret
  exact ⟨rfl, HFIN.out⟩
set_option maxRecDepth 100000 in
theorem len_I (R : Nat) (T : Tr Int Int) (w : World) (h : RakI w R T) : Calls Try.prog 39 #[.pointer (some ⟨R, 0, none⟩)] w fun e w' => e = .returned (.int .i64 (T.cnt : Nat)) ∧ w = w' := by
  obtain ⟨p, hb, hi⟩ := h
  have h1 : w.cell? ⟨R, 1, none⟩ = some (.pointer p) := (hb.cl 1 _ rfl).1
  have HE := Lib.hid (entries_I T p w hi)
  clear hb hi
  go_enter Try.func39, Try.ntmps39
  go_wp2_with fail
  refine HE.out.mono ?_
  rintro e w1 ⟨rfl, rfl⟩
  go_wp2
  go_ret
  exact ⟨rfl, rfl⟩
set_option maxRecDepth 100000 in
set_option maxHeartbeats 2000000 in
theorem put_I (R : Nat) (T : Tr Int Int) (k : Int) (v : Int) (w : World) (hc : T.cnt ≤ 80000) (h : RakI w R T) :
    Calls Try.prog 31 #[.pointer (some ⟨R, 0, none⟩), .int .i64 k, .int .i64 v] w fun e w' => e = .returned (.bool (decide ((T.ins cI k v).cnt = T.cnt))) ∧ RakI w' R (T.ins cI k v) ∧ w.grownBy w' (some R) := by
  have HL := Lib.hid (len_I R T w h)
  obtain ⟨p, hb, hi⟩ := h
  have h1 : w.cell? ⟨R, 1, none⟩ = some (.pointer p) := (hb.cl 1 _ rfl).1
  have hRc : RcI w R := ⟨hb.lt, (hb.cl 0 _ rfl).1⟩
  have HW := Lib.hid (with_I R k v T p w hc hRc hi)
  have HB := Lib.hid hb
  clear hb hi hRc
  go_enter Try.func31, Try.ntmps31
  go_wp2_with fail
  refine HL.out.mono ?_
  rintro e w1 ⟨rfl, rfl⟩
  go_wp2_with fail
  refine HW.out.mono ?_
  rintro e w1 ⟨p1, rfl, hi1, hb1⟩
  have hB1 := HB.out.below hb1 HB.out.lt
  have c1 : w1.cell? ⟨R, 1, none⟩ = some (.pointer p) := (hB1.cl 1 _ rfl).1
  have f1 := (hB1.cl 1 _ rfl).2
  have hR2 : RakI (w1.setCell ⟨R, 1, none⟩ (.pointer p1)) R (T.ins cI k v) := ⟨p1, hB1.set 1 _, hi1.keeps (Keeps.set hB1 (by decide) 1 _)⟩
  have HL2 := Lib.hid (len_I R _ _ hR2)
  have HFIN : Hid (RakI (w1.setCell ⟨R, 1, none⟩ (.pointer p1)) R (T.ins cI k v) ∧ w.grownBy (w1.setCell ⟨R, 1, none⟩ (.pointer p1)) (some R)) := ⟨hR2, grown_trans (grown_below hb1) (grown_set w1 R 1 _)⟩
  clear hR2 hB1 hi1 hb1 HW HL
  go_wp2_with fail
  refine HL2.out.mono ?_
  rintro e w2 ⟨rfl, rfl⟩
  go_wp2
  go_ret
  refine ⟨?_, HFIN.out⟩
  have e1 : (((T.ins cI k v).cnt : Int) == (T.cnt : Int)) = decide ((T.ins cI k v).cnt = T.cnt) := by
    by_cases e : (T.ins cI k v).cnt = T.cnt
    · rw [e]; simp
    · rw [decide_eq_false e]; exact beq_eq_false_iff_ne.2 (by omega)
  rw [← e1]
  rfl
set_option maxRecDepth 100000 in
set_option maxHeartbeats 2000000 in
theorem drop_I (R : Nat) (T : Tr Int Int) (k : Int) (w : World) (hc : T.cnt ≤ 80000) (h : RakI w R T) :
    Calls Try.prog 30 #[.pointer (some ⟨R, 0, none⟩), .int .i64 k] w fun e w' => e = .returned (.bool (decide ((T.del cI k).cnt < T.cnt))) ∧ RakI w' R (T.del cI k) ∧ w.grownBy w' (some R) := by
  have HL := Lib.hid (len_I R T w h)
  obtain ⟨p, hb, hi⟩ := h
  have h1 : w.cell? ⟨R, 1, none⟩ = some (.pointer p) := (hb.cl 1 _ rfl).1
  have hRc : RcI w R := ⟨hb.lt, (hb.cl 0 _ rfl).1⟩
  have HW := Lib.hid (without_I R k T p w hc hRc hi)
  have HB := Lib.hid hb
  clear hb hi hRc
  go_enter Try.func30, Try.ntmps30
  go_wp2_with fail
  refine HL.out.mono ?_
  rintro e w1 ⟨rfl, rfl⟩
  go_wp2_with fail
  refine HW.out.mono ?_
  rintro e w1 ⟨p1, rfl, hi1, hb1⟩
  have hB1 := HB.out.below hb1 HB.out.lt
  have c1 : w1.cell? ⟨R, 1, none⟩ = some (.pointer p) := (hB1.cl 1 _ rfl).1
  have f1 := (hB1.cl 1 _ rfl).2
  have hR2 : RakI (w1.setCell ⟨R, 1, none⟩ (.pointer p1)) R (T.del cI k) := ⟨p1, hB1.set 1 _, hi1.keeps (Keeps.set hB1 (by decide) 1 _)⟩
  have HL2 := Lib.hid (len_I R _ _ hR2)
  have HFIN : Hid (RakI (w1.setCell ⟨R, 1, none⟩ (.pointer p1)) R (T.del cI k) ∧ w.grownBy (w1.setCell ⟨R, 1, none⟩ (.pointer p1)) (some R)) := ⟨hR2, grown_trans (grown_below hb1) (grown_set w1 R 1 _)⟩
  clear hR2 hB1 hi1 hb1 HW HL
  go_wp2_with fail
  refine HL2.out.mono ?_
  rintro e w2 ⟨rfl, rfl⟩
  go_wp2
  go_ret
  refine ⟨?_, HFIN.out⟩
  have e1 : decide (((T.del cI k).cnt : Int) < (T.cnt : Int)) = decide ((T.del cI k).cnt < T.cnt) := by
    by_cases e : (T.del cI k).cnt < T.cnt
    · rw [decide_eq_true e]; exact decide_eq_true (by omega)
    · rw [decide_eq_false e]; exact decide_eq_false (by omega)
  rw [← e1]
  rfl
end Rk
end Go.Proofs.Ytahkmdbbicpfcaa
