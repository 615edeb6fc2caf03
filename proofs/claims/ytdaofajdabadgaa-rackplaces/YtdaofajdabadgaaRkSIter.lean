
/- Racks of string,int: sequences of entries. -/
import Derived.Test.YtdaofajdabadgaaRkSWalk
import Derived.Test.YtdaofajdabadgaaRkSDown
namespace Go.Proofs.Ytdaofajdabadgaa
open Go.RowKit
namespace Rk
/-- f, called with a function, goes through l as far as that asks, in whatever world that only grew -/
def SeqS (w : World) (f : Value) (l : List (ByteArray × Int)) : Prop := ∃ gf lbf, f = .func (.func gf) #[] lbf ∧ (∀ args w, (callFunc gf args).run Try.prog w = .ok (.enter gf args) w) ∧
  ∀ (g : Nat) (lb : Array Value) (_ : ∀ args w, (callFunc g args).run Try.prog w = .ok (.enter g args) w) (cont : List (ByteArray × Int) → Bool) (J : List (ByteArray × Int) → World → Prop) (Jx : World → Prop)
    (_ : ∀ l A, J l A → J l A.drew)
    (_ : ∀ x rest W, J (x :: rest) W → Calls Try.prog g (#[.string x.1, .int .i64 x.2] ++ lb) W fun e W' => e = .returned (.bool (cont rest)) ∧ Res J Jx (cont rest) rest W' ∧ Keeps 77 W W') (W : World),
    Below w.heap.size w W → J l W → Calls Try.prog gf (#[.func (.func g) #[] lb] ++ lbf) W fun e W' => (∃ v, e = .returned v) ∧ Res J Jx (run cont l []) [] W' ∧ Keeps 77 W W'
section
variable (g : Nat) (lb : Array Value) (eg : ∀ args w, (callFunc g args).run Try.prog w = .ok (.enter g args) w) (cont : List (ByteArray × Int) → Bool) (J : List (ByteArray × Int) → World → Prop) (Jx : World → Prop)
  (hJd : ∀ l A, J l A → J l A.drew)
  (hY : ∀ x rest W, J (x :: rest) W → Calls Try.prog g (#[.string x.1, .int .i64 x.2] ++ lb) W fun e W' => e = .returned (.bool (cont rest)) ∧ Res J Jx (cont rest) rest W' ∧ Keeps 77 W W')
include eg hJd hY
set_option maxRecDepth 100000 in
set_option maxHeartbeats 2000000 in
theorem rising1_S (T : Tr ByteArray Int) (p : Option Addr) (place : Int) (q1 q2 : Nat) (w : World) (hc : T.cnt ≤ 80000) (hp1 : -100000 ≤ place - T.cnt) (hp2 : place ≤ 100000) (hq1 : Blk w q1 71 #[.pointer p]) (hq2 : Blk w q2 3 #[.int .i64 place]) (hi : InS w T p) (hJ : J (T.inl.drop place.toNat) w) :
    Calls Try.prog 68 #[.func (.func g) #[] lb, .pointer (some ⟨q1, 0, none⟩), .pointer (some ⟨q2, 0, none⟩)] w fun e w' => (∃ v, e = .returned v) ∧ Res J Jx (run cont (T.inl.drop place.toNat) []) [] w' ∧ Keeps 77 w w' := by
  have HU := Lib.hid (up_S g lb eg cont J Jx hJd hY T p place [] w hc hp1 hp2 hi (by rw [List.append_nil]; exact hJ))
  have h1 : w.cell? ⟨q1, 0, none⟩ = some (.pointer p) := (hq1.cl 0 _ rfl).1
  have h2 : w.cell? ⟨q2, 0, none⟩ = some (.int .i64 place) := (hq2.cl 0 _ rfl).1
  clear hJd hY hi hJ hq1 hq2 hc hp1 hp2
  go_enter Try.func68, Try.ntmps68
  go_wp2_with fail
  refine HU.out.mono ?_
  rintro e w1 ⟨rfl, R1, K1⟩
  go_wp2
  go_end0
  exact ⟨⟨_, rfl⟩, R1, K1⟩
end
set_option maxRecDepth 100000 in
theorem rising_S (T : Tr ByteArray Int) (p : Option Addr) (place : Nat) (w : World) (hc : T.cnt ≤ 80000) (hp : place ≤ T.cnt) (hi : InS w T p) :
    Calls Try.prog 48 #[.pointer p, .int .i64 (place : Int)] w fun e w' => ∃ f, e = .returned f ∧ SeqS w' f (T.inl.drop place) ∧ Below w.heap.size w w' := by
  have hb1 : Below w.heap.size w ((w.alloc (.cells #[.pointer p] 71)).alloc (.cells #[.int .i64 (place : Int)] 3)) := ((Below.refl _ _).alloc (Nat.le_refl _) _).alloc (by simp) _
  have HFIN : Hid (SeqS ((w.alloc (.cells #[.pointer p] 71)).alloc (.cells #[.int .i64 (place : Int)] 3)) (.func (.func 68) #[] #[.pointer (some ⟨w.heap.size, 0, none⟩), .pointer (some ⟨w.heap.size + 1, 0, none⟩)]) (T.inl.drop place) ∧ Below w.heap.size w ((w.alloc (.cells #[.pointer p] 71)).alloc (.cells #[.int .i64 (place : Int)] 3))) := by
    refine ⟨⟨_, _, rfl, fun args w => by kernel_rfl, fun g lb eg cont J Jx hJd hY W hB hJ => ?_⟩, hb1⟩
    have k1 : Blk ((w.alloc (.cells #[.pointer p] 71)).alloc (.cells #[.int .i64 (place : Int)] 3)) w.heap.size 71 #[.pointer p] := (Blk.new w _ _).alloc _
    have k2 : Blk ((w.alloc (.cells #[.pointer p] 71)).alloc (.cells #[.int .i64 (place : Int)] 3)) (w.heap.size + 1) 3 #[.int .i64 (place : Int)] := by
      have := Blk.new (w.alloc (.cells #[.pointer p] 71)) 3 #[.int .i64 (place : Int)]
      simpa using this
    have := rising1_S g lb eg cont J Jx hJd hY T p (place : Int) w.heap.size (w.heap.size + 1) W hc (by omega) (by omega) (k1.below hB k1.lt) (k2.below hB k2.lt) ((hi.below hb1).below hB) (by rw [show ((place : Nat) : Int).toNat = place by omega]; exact hJ)
    rw [show ((place : Nat) : Int).toNat = place by omega] at this
    exact this
  clear hi hb1
  go_enter Try.func48, Try.ntmps48
  go_wp2
  go_ret
  exact ⟨_, rfl, HFIN.out⟩
set_option maxRecDepth 100000 in
set_option maxHeartbeats 2000000 in
theorem from_S (R : Nat) (T : Tr ByteArray Int) (k : ByteArray) (w : World) (hc : T.cnt ≤ 80000) (h : RakS w R T) :
    Calls Try.prog 23 #[.pointer (some ⟨R, 0, none⟩), .string k] w fun e w' => ∃ f, e = .returned f ∧ SeqS w' f (T.inl.drop (T.rank cS k)) ∧ Below w.heap.size w w' := by
  have HRK := Lib.hid (rank_S R T k w.drew hc (h.below (below_dr0 w)))
  obtain ⟨p, hb, hi⟩ := h
  have h1 : w.cell? ⟨R, 1, none⟩ = some (.pointer p) := (hb.cl 1 _ rfl).1
  have HRI : Hid (∀ w', Below w.heap.size w w' → Calls Try.prog 48 #[.pointer p, .int .i64 ((T.rank cS k : Nat) : Int)] w' fun e w'' => ∃ f, e = .returned f ∧ SeqS w'' f (T.inl.drop (T.rank cS k)) ∧ Below w'.heap.size w' w'') := fun w' hb' => rising_S T p _ w' hc (rank_le k T) (hi.below hb')
  have HC : Hid (∀ w', Below w.heap.size w w' → w'.cell? ⟨R, 1, none⟩ = some (.pointer p)) := fun w' hb' => (hb'.cell hb.lt).trans h1
  generalize T.rank cS k = m at HRK HRI ⊢
  clear hb hi
  go_enter Try.func23, Try.ntmps23
  go_wp2_with fail
  go_region_held3 (fun w' => w'.cell? ⟨R, 1, none⟩ = some (.pointer p)) (first | go_keep | exact HC.out _ B2 | exact HC.out _ B1)
    (first
      | (go_at_call 48; refine (HRI.out _ B1).mono ?_; rintro e wB ⟨f, rfl, SF, B2'⟩; have B2 := below_step B1 (Nat.le_refl _) B2')
      | (go_at_call 18; refine HRK.out.mono ?_; rintro e wA ⟨rfl, B1'⟩; have B1 := below_step (below_dr0 w) (Nat.le_refl _) B1'))
  all_goals
    go_wp2
    go_ret
    exact ⟨_, rfl, SF, B2⟩
set_option maxRecDepth 100000 in
theorem all_S (R : Nat) (T : Tr ByteArray Int) (w : World) (hc : T.cnt ≤ 80000) (h : RakS w R T) :
    Calls Try.prog 20 #[.pointer (some ⟨R, 0, none⟩)] w fun e w' => ∃ f, e = .returned f ∧ SeqS w' f T.inl ∧ Below w.heap.size w w' := by
  obtain ⟨p, hb, hi⟩ := h
  have h1 : w.cell? ⟨R, 1, none⟩ = some (.pointer p) := (hb.cl 1 _ rfl).1
  have HRI := Lib.hid (rising_S T p 0 w hc (Nat.zero_le _) hi)
  clear hb hi
  go_enter Try.func20, Try.ntmps20
  go_wp2_with fail
  refine HRI.out.mono ?_
  rintro e w1 ⟨f, rfl, hs, hb1⟩
  go_wp2
  go_ret
  exact ⟨_, rfl, hs, hb1⟩
section
variable (g : Nat) (lb : Array Value) (eg : ∀ args w, (callFunc g args).run Try.prog w = .ok (.enter g args) w) (cont : List (ByteArray × Int) → Bool) (J : List (ByteArray × Int) → World → Prop) (Jx : World → Prop)
  (hJd : ∀ l A, J l A → J l A.drew)
  (hY : ∀ x rest W, J (x :: rest) W → Calls Try.prog g (#[.string x.1, .int .i64 x.2] ++ lb) W fun e W' => e = .returned (.bool (cont rest)) ∧ Res J Jx (cont rest) rest W' ∧ Keeps 77 W W')
include eg hJd hY
set_option maxRecDepth 100000 in
set_option maxHeartbeats 2000000 in
theorem back1_S (T : Tr ByteArray Int) (p : Option Addr) (q1 : Nat) (w : World) (hq1 : Blk w q1 71 #[.pointer p]) (hi : InS w T p) (hJ : J T.inl.reverse w) :
    Calls Try.prog 49 #[.func (.func g) #[] lb, .pointer (some ⟨q1, 0, none⟩)] w fun e w' => (∃ v, e = .returned v) ∧ Res J Jx (run cont T.inl.reverse []) [] w' ∧ Keeps 77 w w' := by
  have HU := Lib.hid (down_S g lb eg cont J Jx hJd hY T p [] w hi (by rw [List.append_nil]; exact hJ))
  have h1 : w.cell? ⟨q1, 0, none⟩ = some (.pointer p) := (hq1.cl 0 _ rfl).1
  clear hJd hY hi hJ hq1
  go_enter Try.func49, Try.ntmps49
  go_wp2_with fail
  refine HU.out.mono ?_
  rintro e w1 ⟨rfl, R1, K1⟩
  go_wp2
  go_end0
  exact ⟨⟨_, rfl⟩, R1, K1⟩
end
set_option maxRecDepth 100000 in
set_option maxHeartbeats 2000000 in
theorem back_S (R : Nat) (T : Tr ByteArray Int) (w : World) (h : RakS w R T) :
    Calls Try.prog 21 #[.pointer (some ⟨R, 0, none⟩)] w fun e w' => ∃ f, e = .returned f ∧ SeqS w' f T.inl.reverse ∧ Below w.heap.size w w' := by
  obtain ⟨p, hb, hi⟩ := h
  have h1 : w.cell? ⟨R, 1, none⟩ = some (.pointer p) := (hb.cl 1 _ rfl).1
  have hb1 : Below w.heap.size w (w.alloc (.cells #[.pointer p] 71)) := (Below.refl _ _).alloc (Nat.le_refl _) _
  have HFIN : Hid (SeqS (w.alloc (.cells #[.pointer p] 71)) (.func (.func 49) #[] #[.pointer (some ⟨w.heap.size, 0, none⟩)]) T.inl.reverse ∧ Below w.heap.size w (w.alloc (.cells #[.pointer p] 71))) := by
    refine ⟨⟨_, _, rfl, fun args w => by kernel_rfl, fun g lb eg cont J Jx hJd hY W hB hJ => ?_⟩, hb1⟩
    have k1 := Blk.new w 71 #[.pointer p]
    exact back1_S g lb eg cont J Jx hJd hY T p w.heap.size W (k1.below hB k1.lt) ((hi.below hb1).below hB) hJ
  clear hb hi hb1
  go_enter Try.func21, Try.ntmps21
  go_wp2
  go_ret
  exact ⟨_, rfl, HFIN.out⟩
end Rk
end Go.Proofs.Ytdaofajdabadgaa
