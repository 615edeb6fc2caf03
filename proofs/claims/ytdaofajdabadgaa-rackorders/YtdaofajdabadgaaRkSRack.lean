
/- Racks of string,int: New, Len, Put, Drop, Height. -/
import Derived.Test.YtdaofajdabadgaaRkSWithout
namespace Go.Proofs.Ytdaofajdabadgaa
open Go.RowKit
namespace Rk
/-- the rack at R has the tree T -/
def RakS (w : World) (R : Nat) (T : Tr ByteArray Int) : Prop := ∃ p, Blk w R 74 #[.func (.func 37) #[] #[], .pointer p] ∧ InS w T p
theorem RakS.keep {w w' : World} {R : Nat} {T : Tr ByteArray Int} (h : RakS w R T) (hk : Keeps 77 w w') (hR : w'.heap[R]? = w.heap[R]?) : RakS w' R T := by
  obtain ⟨p, hb, hi⟩ := h
  exact ⟨p, hR.trans hb, hi.keeps hk⟩
theorem RakS.lt {w : World} {R : Nat} {T : Tr ByteArray Int} (h : RakS w R T) : R < w.heap.size := by
  obtain ⟨p, hb, hi⟩ := h
  exact hb.lt
theorem RakS.below {w w' : World} {R : Nat} {T : Tr ByteArray Int} (h : RakS w R T) (hb : Below w.heap.size w w') : RakS w' R T := h.keep (Keeps.below hb) (hb.block R h.lt)
/-- another rack's call lets it be -/
theorem RakS.grown {w w' : World} {R R2 : Nat} {t2 : TypeId} {cs2 : Array Value} {T : Tr ByteArray Int} (h : RakS w R T) (hg : w.grownBy w' (some R2)) (h2 : Blk w R2 t2 cs2) (ht : 77 ≠ t2) (hne : R ≠ R2) : RakS w' R T :=
  h.keep (Keeps.grown hg h2 ht) (hg.block R h.lt (fun e => hne (by injection e)))
theorem isnil_S (w : World) : (binOp .eql 63 (.func (.func 37) #[] #[]) .nilFunc).run Try.prog w = .ok (.bool false) w := by kernel_rfl
set_option maxRecDepth 100000 in
set_option maxHeartbeats 1000000 in
theorem new_S (w : World) : Calls Try.prog 36 #[.func (.func 37) #[] #[]] w fun e w' => e = .returned (.pointer (some ⟨w.heap.size, 0, none⟩)) ∧ RakS w' w.heap.size .nil ∧ Below w.heap.size w w' := by
  have HFIN : Hid (RakS (w.alloc (.cells #[.func (.func 37) #[] #[], .pointer none] 74)) w.heap.size .nil ∧ Below w.heap.size w (w.alloc (.cells #[.func (.func 37) #[] #[], .pointer none] 74))) :=
    ⟨⟨none, Blk.new w _ _, rfl⟩, (Below.refl _ _).alloc (Nat.le_refl _) _⟩
  have hnil := isnil_S
  go_enter Try.func36, Try.ntmps36
  go_wp2
  go_ret
  exact ⟨rfl, HFIN.out⟩
set_option maxRecDepth 100000 in
theorem len_S (R : Nat) (T : Tr ByteArray Int) (w : World) (h : RakS w R T) : Calls Try.prog 17 #[.pointer (some ⟨R, 0, none⟩)] w fun e w' => e = .returned (.int .i64 (T.cnt : Nat)) ∧ w = w' := by
  obtain ⟨p, hb, hi⟩ := h
  have h1 : w.cell? ⟨R, 1, none⟩ = some (.pointer p) := (hb.cl 1 _ rfl).1
  have HE := Lib.hid (entries_S T p w hi)
  clear hb hi
  go_enter Try.func17, Try.ntmps17
  go_wp2_with fail
  refine HE.out.mono ?_
  rintro e w1 ⟨rfl, rfl⟩
  go_wp2
  go_ret
  exact ⟨rfl, rfl⟩
set_option maxRecDepth 100000 in
set_option maxHeartbeats 2000000 in
theorem put_S (R : Nat) (T : Tr ByteArray Int) (k : ByteArray) (v : Int) (w : World) (hc : T.cnt ≤ 80000) (h : RakS w R T) :
    Calls Try.prog 12 #[.pointer (some ⟨R, 0, none⟩), .string k, .int .i64 v] w fun e w' => e = .returned (.bool (decide ((T.ins cS k v).cnt = T.cnt))) ∧ RakS w' R (T.ins cS k v) ∧ w.grownBy w' (some R) := by
  have HL := Lib.hid (len_S R T w h)
  obtain ⟨p, hb, hi⟩ := h
  have h1 : w.cell? ⟨R, 1, none⟩ = some (.pointer p) := (hb.cl 1 _ rfl).1
  have hRc : RcS w R := ⟨hb.lt, (hb.cl 0 _ rfl).1⟩
  have HW := Lib.hid (with_S R k v T p w hc hRc hi)
  have HB := Lib.hid hb
  clear hb hi hRc
  go_enter Try.func12, Try.ntmps12
  go_wp2_with fail
  refine HL.out.mono ?_
  rintro e w1 ⟨rfl, rfl⟩
  go_wp2_with fail
  refine HW.out.mono ?_
  rintro e w1 ⟨p1, rfl, hi1, hb1⟩
  have hB1 := HB.out.below hb1 HB.out.lt
  have c1 : w1.cell? ⟨R, 1, none⟩ = some (.pointer p) := (hB1.cl 1 _ rfl).1
  have f1 := (hB1.cl 1 _ rfl).2
  have hR2 : RakS (w1.setCell ⟨R, 1, none⟩ (.pointer p1)) R (T.ins cS k v) := ⟨p1, hB1.set 1 _, hi1.keeps (Keeps.set hB1 (by decide) 1 _)⟩
  have HL2 := Lib.hid (len_S R _ _ hR2)
  have HFIN : Hid (RakS (w1.setCell ⟨R, 1, none⟩ (.pointer p1)) R (T.ins cS k v) ∧ w.grownBy (w1.setCell ⟨R, 1, none⟩ (.pointer p1)) (some R)) := ⟨hR2, grown_trans (grown_below hb1) (grown_set w1 R 1 _)⟩
  clear hR2 hB1 hi1 hb1 HW HL
  go_wp2_with fail
  refine HL2.out.mono ?_
  rintro e w2 ⟨rfl, rfl⟩
  go_wp2
  go_ret
  refine ⟨?_, HFIN.out⟩
  have e1 : (((T.ins cS k v).cnt : Int) == (T.cnt : Int)) = decide ((T.ins cS k v).cnt = T.cnt) := by
    by_cases e : (T.ins cS k v).cnt = T.cnt
    · rw [e]; simp
    · rw [decide_eq_false e]; exact beq_eq_false_iff_ne.2 (by omega)
  rw [← e1]
  rfl
set_option maxRecDepth 100000 in
set_option maxHeartbeats 2000000 in
theorem drop_S (R : Nat) (T : Tr ByteArray Int) (k : ByteArray) (w : World) (hc : T.cnt ≤ 80000) (h : RakS w R T) :
    Calls Try.prog 14 #[.pointer (some ⟨R, 0, none⟩), .string k] w fun e w' => e = .returned (.bool (decide ((T.del cS k).cnt < T.cnt))) ∧ RakS w' R (T.del cS k) ∧ w.grownBy w' (some R) := by
  have HL := Lib.hid (len_S R T w h)
  obtain ⟨p, hb, hi⟩ := h
  have h1 : w.cell? ⟨R, 1, none⟩ = some (.pointer p) := (hb.cl 1 _ rfl).1
  have hRc : RcS w R := ⟨hb.lt, (hb.cl 0 _ rfl).1⟩
  have HW := Lib.hid (without_S R k T p w hc hRc hi)
  have HB := Lib.hid hb
  clear hb hi hRc
  go_enter Try.func14, Try.ntmps14
  go_wp2_with fail
  refine HL.out.mono ?_
  rintro e w1 ⟨rfl, rfl⟩
  go_wp2_with fail
  refine HW.out.mono ?_
  rintro e w1 ⟨p1, rfl, hi1, hb1⟩
  have hB1 := HB.out.below hb1 HB.out.lt
  have c1 : w1.cell? ⟨R, 1, none⟩ = some (.pointer p) := (hB1.cl 1 _ rfl).1
  have f1 := (hB1.cl 1 _ rfl).2
  have hR2 : RakS (w1.setCell ⟨R, 1, none⟩ (.pointer p1)) R (T.del cS k) := ⟨p1, hB1.set 1 _, hi1.keeps (Keeps.set hB1 (by decide) 1 _)⟩
  have HL2 := Lib.hid (len_S R _ _ hR2)
  have HFIN : Hid (RakS (w1.setCell ⟨R, 1, none⟩ (.pointer p1)) R (T.del cS k) ∧ w.grownBy (w1.setCell ⟨R, 1, none⟩ (.pointer p1)) (some R)) := ⟨hR2, grown_trans (grown_below hb1) (grown_set w1 R 1 _)⟩
  clear hR2 hB1 hi1 hb1 HW HL
  go_wp2_with fail
  refine HL2.out.mono ?_
  rintro e w2 ⟨rfl, rfl⟩
  go_wp2
  go_ret
  refine ⟨?_, HFIN.out⟩
  have e1 : decide (((T.del cS k).cnt : Int) < (T.cnt : Int)) = decide ((T.del cS k).cnt < T.cnt) := by
    by_cases e : (T.del cS k).cnt < T.cnt
    · rw [decide_eq_true e]; exact decide_eq_true (by omega)
    · rw [decide_eq_false e]; exact decide_eq_false (by omega)
  rw [← e1]
  rfl
set_option maxRecDepth 100000 in
theorem height_S (R : Nat) (T : Tr ByteArray Int) (w : World) (h : RakS w R T) : Calls Try.prog 25 #[.pointer (some ⟨R, 0, none⟩)] w fun e w' => e = .returned (.int .i64 (T.ht : Nat)) ∧ w = w' := by
  obtain ⟨p, hb, hi⟩ := h
  have h1 : w.cell? ⟨R, 1, none⟩ = some (.pointer p) := (hb.cl 1 _ rfl).1
  have HE := Lib.hid (levels_S T p w hi)
  clear hb hi
  go_enter Try.func25, Try.ntmps25
  go_wp2_with fail
  refine HE.out.mono ?_
  rintro e w1 ⟨rfl, rfl⟩
  go_wp2
  go_ret
  exact ⟨rfl, rfl⟩
end Rk
end Go.Proofs.Ytdaofajdabadgaa
