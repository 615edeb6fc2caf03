
/- Racks of int,bool: New, Len, Put. -/
import Derived.Test.YtdaofajdabadgaaRkBWith
namespace Go.Proofs.Ytdaofajdabadgaa
open Go.RowKit
namespace Rk
/-- the rack at R has the tree T -/
def RakB (w : World) (R : Nat) (T : Tr Int Bool) : Prop := ∃ p, Blk w R 87 #[.func (.func 30) #[] #[], .pointer p] ∧ InB w T p
theorem RakB.keep {w w' : World} {R : Nat} {T : Tr Int Bool} (h : RakB w R T) (hk : Keeps 99 w w') (hR : w'.heap[R]? = w.heap[R]?) : RakB w' R T := by
  obtain ⟨p, hb, hi⟩ := h
  exact ⟨p, hR.trans hb, hi.keeps hk⟩
theorem RakB.lt {w : World} {R : Nat} {T : Tr Int Bool} (h : RakB w R T) : R < w.heap.size := by
  obtain ⟨p, hb, hi⟩ := h
  exact hb.lt
theorem RakB.below {w w' : World} {R : Nat} {T : Tr Int Bool} (h : RakB w R T) (hb : Below w.heap.size w w') : RakB w' R T := h.keep (Keeps.below hb) (hb.block R h.lt)
/-- another rack's call lets it be -/
theorem RakB.grown {w w' : World} {R R2 : Nat} {t2 : TypeId} {cs2 : Array Value} {T : Tr Int Bool} (h : RakB w R T) (hg : w.grownBy w' (some R2)) (h2 : Blk w R2 t2 cs2) (ht : 99 ≠ t2) (hne : R ≠ R2) : RakB w' R T :=
  h.keep (Keeps.grown hg h2 ht) (hg.block R h.lt (fun e => hne (by injection e)))
theorem isnil_B (w : World) : (binOp .eql 57 (.func (.func 30) #[] #[]) .nilFunc).run Try.prog w = .ok (.bool false) w := by kernel_rfl
set_option maxRecDepth 100000 in
set_option maxHeartbeats 1000000 in
theorem new_B (w : World) : Calls Try.prog 38 #[.func (.func 30) #[] #[]] w fun e w' => e = .returned (.pointer (some ⟨w.heap.size, 0, none⟩)) ∧ RakB w' w.heap.size .nil ∧ Below w.heap.size w w' := by
  have HFIN : Hid (RakB (w.alloc (.cells #[.func (.func 30) #[] #[], .pointer none] 87)) w.heap.size .nil ∧ Below w.heap.size w (w.alloc (.cells #[.func (.func 30) #[] #[], .pointer none] 87))) :=
    ⟨⟨none, Blk.new w _ _, rfl⟩, (Below.refl _ _).alloc (Nat.le_refl _) _⟩
  have hnil := isnil_B
  go_enter Try.func38, Try.ntmps38
  go_wp2
  go_ret
  exact ⟨rfl, HFIN.out⟩
set_option maxRecDepth 100000 in
theorem len_B (R : Nat) (T : Tr Int Bool) (w : World) (h : RakB w R T) : Calls Try.prog 42 #[.pointer (some ⟨R, 0, none⟩)] w fun e w' => e = .returned (.int .i64 (T.cnt : Nat)) ∧ w = w' := by
  obtain ⟨p, hb, hi⟩ := h
  have h1 : w.cell? ⟨R, 1, none⟩ = some (.pointer p) := (hb.cl 1 _ rfl).1
  have HE := Lib.hid (entries_B T p w hi)
  clear hb hi
  go_enter Try.func42, Try.ntmps42
  go_wp2_with fail
  refine HE.out.mono ?_
  rintro e w1 ⟨rfl, rfl⟩
  go_wp2
  go_ret
  exact ⟨rfl, rfl⟩
set_option maxRecDepth 100000 in
set_option maxHeartbeats 2000000 in
theorem put_B (R : Nat) (T : Tr Int Bool) (k : Int) (v : Bool) (w : World) (hc : T.cnt ≤ 80000) (h : RakB w R T) :
    Calls Try.prog 39 #[.pointer (some ⟨R, 0, none⟩), .int .i64 k, .bool v] w fun e w' => e = .returned (.bool (decide ((T.ins cI k v).cnt = T.cnt))) ∧ RakB w' R (T.ins cI k v) ∧ w.grownBy w' (some R) := by
  have HL := Lib.hid (len_B R T w h)
  obtain ⟨p, hb, hi⟩ := h
  have h1 : w.cell? ⟨R, 1, none⟩ = some (.pointer p) := (hb.cl 1 _ rfl).1
  have hRc : RcB w R := ⟨hb.lt, (hb.cl 0 _ rfl).1⟩
  have HW := Lib.hid (with_B R k v T p w hc hRc hi)
  have HB := Lib.hid hb
  clear hb hi hRc
  go_enter Try.func39, Try.ntmps39
  go_wp2_with fail
  refine HL.out.mono ?_
  rintro e w1 ⟨rfl, rfl⟩
  go_wp2_with fail
  refine HW.out.mono ?_
  rintro e w1 ⟨p1, rfl, hi1, hb1⟩
  have hB1 := HB.out.below hb1 HB.out.lt
  have c1 : w1.cell? ⟨R, 1, none⟩ = some (.pointer p) := (hB1.cl 1 _ rfl).1
  have f1 := (hB1.cl 1 _ rfl).2
  have hR2 : RakB (w1.setCell ⟨R, 1, none⟩ (.pointer p1)) R (T.ins cI k v) := ⟨p1, hB1.set 1 _, hi1.keeps (Keeps.set hB1 (by decide) 1 _)⟩
  have HL2 := Lib.hid (len_B R _ _ hR2)
  have HFIN : Hid (RakB (w1.setCell ⟨R, 1, none⟩ (.pointer p1)) R (T.ins cI k v) ∧ w.grownBy (w1.setCell ⟨R, 1, none⟩ (.pointer p1)) (some R)) := ⟨hR2, grown_trans (grown_below hb1) (grown_set w1 R 1 _)⟩
  clear hR2 hB1 hi1 hb1 HW HL
  go_wp2_with fail
  refine HL2.out.mono ?_
  rintro e w2 ⟨rfl, rfl⟩
  go_wp2
  go_ret
  refine ⟨?_, HFIN.out⟩
  have e1 : (((T.ins cI k v).cnt : Int) == (T.cnt : Int)) = decide ((T.ins cI k v).cnt = T.cnt) := by
    by_cases e : (T.ins cI k v).cnt = T.cnt
    · rw [e]; simp
    · rw [decide_eq_false e]; exact beq_eq_false_iff_ne.2 (by omega)
  rw [← e1]
  rfl
end Rk
end Go.Proofs.Ytdaofajdabadgaa
