
/- Racks of int,int: sequences of entries. -/
import Derived.Test.YtahkmdbbicpfcaaRkIWalk
import Derived.Test.YtahkmdbbicpfcaaRkIUp
namespace Go.Proofs.Ytahkmdbbicpfcaa
open Go.RowKit
namespace Rk
/-- f, called with a function, goes through l as far as that asks, in whatever world that only grew -/
def SeqI (w : World) (f : Value) (l : List (Int × Int)) : Prop := ∃ gf lbf, f = .func (.func gf) #[] lbf ∧ (∀ args w, (callFunc gf args).run Try.prog w = .ok (.enter gf args) w) ∧
  ∀ (g : Nat) (lb : Array Value) (_ : ∀ args w, (callFunc g args).run Try.prog w = .ok (.enter g args) w) (cont : List (Int × Int) → Bool) (J : List (Int × Int) → World → Prop) (Jx : World → Prop)
    (_ : ∀ l A, J l A → J l A.drew)
    (_ : ∀ x rest W, J (x :: rest) W → Calls Try.prog g (#[.int .i64 x.1, .int .i64 x.2] ++ lb) W fun e W' => e = .returned (.bool (cont rest)) ∧ Res J Jx (cont rest) rest W' ∧ Keeps 76 W W') (W : World),
    Below w.heap.size w W → J l W → Calls Try.prog gf (#[.func (.func g) #[] lb] ++ lbf) W fun e W' => (∃ v, e = .returned v) ∧ Res J Jx (run cont l []) [] W' ∧ Keeps 76 W W'
section
variable (g : Nat) (lb : Array Value) (eg : ∀ args w, (callFunc g args).run Try.prog w = .ok (.enter g args) w) (cont : List (Int × Int) → Bool) (J : List (Int × Int) → World → Prop) (Jx : World → Prop)
  (hJd : ∀ l A, J l A → J l A.drew)
  (hY : ∀ x rest W, J (x :: rest) W → Calls Try.prog g (#[.int .i64 x.1, .int .i64 x.2] ++ lb) W fun e W' => e = .returned (.bool (cont rest)) ∧ Res J Jx (cont rest) rest W' ∧ Keeps 76 W W')
include eg hJd hY
set_option maxRecDepth 100000 in
set_option maxHeartbeats 2000000 in
theorem rising1_I (T : Tr Int Int) (p : Option Addr) (place : Int) (q1 q2 : Nat) (w : World) (hc : T.cnt ≤ 80000) (hp1 : -100000 ≤ place - T.cnt) (hp2 : place ≤ 100000) (hq1 : Blk w q1 70 #[.pointer p]) (hq2 : Blk w q2 3 #[.int .i64 place]) (hi : InI w T p) (hJ : J (T.inl.drop place.toNat) w) :
    Calls Try.prog 48 #[.func (.func g) #[] lb, .pointer (some ⟨q1, 0, none⟩), .pointer (some ⟨q2, 0, none⟩)] w fun e w' => (∃ v, e = .returned v) ∧ Res J Jx (run cont (T.inl.drop place.toNat) []) [] w' ∧ Keeps 76 w w' := by
  have HU := Lib.hid (up_I g lb eg cont J Jx hJd hY T p place [] w hc hp1 hp2 hi (by rw [List.append_nil]; exact hJ))
  have h1 : w.cell? ⟨q1, 0, none⟩ = some (.pointer p) := (hq1.cl 0 _ rfl).1
  have h2 : w.cell? ⟨q2, 0, none⟩ = some (.int .i64 place) := (hq2.cl 0 _ rfl).1
  clear hJd hY hi hJ hq1 hq2 hc hp1 hp2
  go_enter Try.func48, Try.ntmps48
  go_wp2_with fail
  refine HU.out.mono ?_
  rintro e w1 ⟨rfl, R1, K1⟩
  go_wp2
  go_end0
  exact ⟨⟨_, rfl⟩, R1, K1⟩
end
set_option maxRecDepth 100000 in
theorem rising_I (T : Tr Int Int) (p : Option Addr) (place : Nat) (w : World) (hc : T.cnt ≤ 80000) (hp : place ≤ T.cnt) (hi : InI w T p) :
    Calls Try.prog 42 #[.pointer p, .int .i64 (place : Int)] w fun e w' => ∃ f, e = .returned f ∧ SeqI w' f (T.inl.drop place) ∧ Below w.heap.size w w' := by
  have hb1 : Below w.heap.size w ((w.alloc (.cells #[.pointer p] 70)).alloc (.cells #[.int .i64 (place : Int)] 3)) := ((Below.refl _ _).alloc (Nat.le_refl _) _).alloc (by simp) _
  have HFIN : Hid (SeqI ((w.alloc (.cells #[.pointer p] 70)).alloc (.cells #[.int .i64 (place : Int)] 3)) (.func (.func 48) #[] #[.pointer (some ⟨w.heap.size, 0, none⟩), .pointer (some ⟨w.heap.size + 1, 0, none⟩)]) (T.inl.drop place) ∧ Below w.heap.size w ((w.alloc (.cells #[.pointer p] 70)).alloc (.cells #[.int .i64 (place : Int)] 3))) := by
    refine ⟨⟨_, _, rfl, fun args w => by kernel_rfl, fun g lb eg cont J Jx hJd hY W hB hJ => ?_⟩, hb1⟩
    have k1 : Blk ((w.alloc (.cells #[.pointer p] 70)).alloc (.cells #[.int .i64 (place : Int)] 3)) w.heap.size 70 #[.pointer p] := (Blk.new w _ _).alloc _
    have k2 : Blk ((w.alloc (.cells #[.pointer p] 70)).alloc (.cells #[.int .i64 (place : Int)] 3)) (w.heap.size + 1) 3 #[.int .i64 (place : Int)] := by
      have := Blk.new (w.alloc (.cells #[.pointer p] 70)) 3 #[.int .i64 (place : Int)]
      simpa using this
    have := rising1_I g lb eg cont J Jx hJd hY T p (place : Int) w.heap.size (w.heap.size + 1) W hc (by omega) (by omega) (k1.below hB k1.lt) (k2.below hB k2.lt) ((hi.below hb1).below hB) (by rw [show ((place : Nat) : Int).toNat = place by omega]; exact hJ)
    rw [show ((place : Nat) : Int).toNat = place by omega] at this
    exact this
  clear hi hb1
  go_enter Try.func42, Try.ntmps42
  go_wp2
  go_ret
  exact ⟨_, rfl, HFIN.out⟩
end Rk
end Go.Proofs.Ytahkmdbbicpfcaa
