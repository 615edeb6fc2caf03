
/- Racks of int,int: All, called with a function or ranged over. -/
import Derived.Test.YtahkmdbbicpfcaaRkIIter
import Derived.Test.YtahkmdbbicpfcaaRkIUpY
namespace Go.Proofs.Ytahkmdbbicpfcaa
open Go.RowKit
namespace Rk
/-- an entry as it is given -/
def encI (x : Int × Int) : Array Value := #[.int .i64 x.1, .int .i64 x.2]
/-- f goes through l, called with a function or ranged over -/
def BothI (w : World) (f : Value) (l : List (Int × Int)) : Prop := SeqI w f l ∧ ∃ gf lbf, f = .func (.func gf) #[] lbf ∧ (∀ args w, (callFunc gf args).run Try.prog w = .ok (.enter gf args) w) ∧ SeqR Try.prog (Keeps 76) encI w gf lbf l
theorem SeqI.below {w w' : World} {f : Value} {l : List (Int × Int)} (h : SeqI w f l) (hb : Below w.heap.size w w') : SeqI w' f l := by
  obtain ⟨gf, lbf, e, eg, h⟩ := h
  exact ⟨gf, lbf, e, eg, fun g lb e2 cont J Jx hd hY W hW hJ => h g lb e2 cont J Jx hd hY W (hb.trans (hW.mono hb.size)) hJ⟩
theorem SeqR.below {P : Program} {α : Type} {Kp : World → World → Prop} {encs : α → Array Value} {w w' : World} {gf : Nat} {lbf : Array Value} {l : List α} (h : SeqR P Kp encs w gf lbf l) (hb : Below w.heap.size w w') : SeqR P Kp encs w' gf lbf l :=
  fun lp cont J Jx hJ hY W hW hJl => h lp cont J Jx hJ hY W (hb.trans (hW.mono hb.size)) hJl
theorem BothI.below {w w' : World} {f : Value} {l : List (Int × Int)} (h : BothI w f l) (hb : Below w.heap.size w w') : BothI w' f l := by
  obtain ⟨h1, gf, lbf, e, eg, h2⟩ := h
  exact ⟨h1.below hb, gf, lbf, e, eg, SeqR.below h2 hb⟩
section
variable (lp : Nat) (cont : List (Int × Int) → Bool) (J : List (Int × Int) → World → Prop) (Jx : World → Prop)
  (hJd : ∀ l A, J l A → J l A.drew)
  (hY : ∀ x rest W, J (x :: rest) W → YieldAt Fence.wide 0 Try.prog lp #[.int .i64 x.1, .int .i64 x.2] W fun e W' => e = .returned (.bool (cont rest)) ∧ Res J Jx (cont rest) rest W' ∧ Keeps 76 W W')
include hJd hY
set_option maxRecDepth 100000 in
set_option maxHeartbeats 2000000 in
theorem rising1Y_I (T : Tr Int Int) (p : Option Addr) (place : Int) (q1 q2 : Nat) (w : World) (hc : T.cnt ≤ 80000) (hp1 : -100000 ≤ place - T.cnt) (hp2 : place ≤ 100000) (hq1 : Blk w q1 70 #[.pointer p]) (hq2 : Blk w q2 3 #[.int .i64 place]) (hi : InI w T p) (hJ : J (T.inl.drop place.toNat) w) :
    Calls Try.prog 48 #[.func (.yield lp) #[] #[], .pointer (some ⟨q1, 0, none⟩), .pointer (some ⟨q2, 0, none⟩)] w fun e w' => (∃ v, e = .returned v) ∧ Res J Jx (run cont (T.inl.drop place.toNat) []) [] w' ∧ Keeps 76 w w' := by
  have HU := Lib.hid (upY_I lp cont J Jx hJd hY T p place [] w hc hp1 hp2 hi (by rw [List.append_nil]; exact hJ))
  have h1 : w.cell? ⟨q1, 0, none⟩ = some (.pointer p) := (hq1.cl 0 _ rfl).1
  have h2 : w.cell? ⟨q2, 0, none⟩ = some (.int .i64 place) := (hq2.cl 0 _ rfl).1
  clear hJd hY hi hJ hq1 hq2 hc hp1 hp2
  go_enter Try.func48, Try.ntmps48
  go_wp2_with fail
  refine HU.out.mono ?_
  rintro e w1 ⟨rfl, R1, K1⟩
  go_wp2
  go_end0
  exact ⟨⟨_, rfl⟩, R1, K1⟩
end
set_option maxRecDepth 100000 in
theorem risingB_I (T : Tr Int Int) (p : Option Addr) (w : World) (hc : T.cnt ≤ 80000) (hi : InI w T p) :
    Calls Try.prog 42 #[.pointer p, .int .i64 0] w fun e w' => ∃ f, e = .returned f ∧ BothI w' f T.inl ∧ Below w.heap.size w w' := by
  have hb1 : Below w.heap.size w ((w.alloc (.cells #[.pointer p] 70)).alloc (.cells #[.int .i64 0] 3)) := ((Below.refl _ _).alloc (Nat.le_refl _) _).alloc (by simp) _
  have k1 : Blk ((w.alloc (.cells #[.pointer p] 70)).alloc (.cells #[.int .i64 0] 3)) w.heap.size 70 #[.pointer p] := (Blk.new w _ _).alloc _
  have k2 : Blk ((w.alloc (.cells #[.pointer p] 70)).alloc (.cells #[.int .i64 0] 3)) (w.heap.size + 1) 3 #[.int .i64 0] := by
    have := Blk.new (w.alloc (.cells #[.pointer p] 70)) 3 #[.int .i64 0]
    simpa using this
  have HFIN : Hid (BothI ((w.alloc (.cells #[.pointer p] 70)).alloc (.cells #[.int .i64 0] 3)) (.func (.func 48) #[] #[.pointer (some ⟨w.heap.size, 0, none⟩), .pointer (some ⟨w.heap.size + 1, 0, none⟩)]) T.inl ∧ Below w.heap.size w ((w.alloc (.cells #[.pointer p] 70)).alloc (.cells #[.int .i64 0] 3))) := by
    refine ⟨⟨⟨_, _, rfl, fun args w => by kernel_rfl, fun g lb eg cont J Jx hJd hY W hB hJ => ?_⟩, _, _, rfl, fun args w => by kernel_rfl, fun lp cont J Jx hJd hY W hB hJ => ?_⟩, hb1⟩
    · exact rising1_I g lb eg cont J Jx hJd hY T p 0 w.heap.size (w.heap.size + 1) W hc (by omega) (by omega) (k1.below hB k1.lt) (k2.below hB k2.lt) ((hi.below hb1).below hB) hJ
    · exact rising1Y_I lp cont J Jx (fun l A h => hJd l A _ h (below_dr0 A)) hY T p 0 w.heap.size (w.heap.size + 1) W hc (by omega) (by omega) (k1.below hB k1.lt) (k2.below hB k2.lt) ((hi.below hb1).below hB) hJ
  clear hi hb1 k1 k2
  go_enter Try.func42, Try.ntmps42
  go_wp2
  go_ret
  exact ⟨_, rfl, HFIN.out⟩
set_option maxRecDepth 100000 in
theorem allB_I (R : Nat) (T : Tr Int Int) (w : World) (hc : T.cnt ≤ 80000) (h : RakI w R T) :
    Calls Try.prog 36 #[.pointer (some ⟨R, 0, none⟩)] w fun e w' => ∃ f, e = .returned f ∧ BothI w' f T.inl ∧ Below w.heap.size w w' := by
  obtain ⟨p, hb, hi⟩ := h
  have h1 : w.cell? ⟨R, 1, none⟩ = some (.pointer p) := (hb.cl 1 _ rfl).1
  have HRI := Lib.hid (risingB_I T p w hc hi)
  clear hb hi
  go_enter Try.func36, Try.ntmps36
  go_wp2_with fail
  refine HRI.out.mono ?_
  rintro e w1 ⟨f, rfl, hs, hb1⟩
  go_wp2
  go_ret
  exact ⟨_, rfl, hs, hb1⟩
end Rk
end Go.Proofs.Ytahkmdbbicpfcaa
