
/- A Coil in memory; Up puts a number's digits. -/
import Derived.Test.YtdiokcmhpndoeaaDoorClDigits
import Derived.Maps.AppendAt
import Derived.RegionTactic
import Derived.Stop.RegionWithIn
namespace Go.Proofs.YtdiokcmhpndoeaaDoor
open Go.RowKit Go.Shelf
attribute [local go_sem] Oper.semAt_some
namespace Cl
def enc (l : List UInt8) : List Value := l.map fun b => .int .u8 (b.toNat : Int)
theorem enc_len (l : List UInt8) : (enc l).length = l.length * 1 := by simp [enc]
theorem enc_app (a b : List UInt8) : enc (a ++ b) = enc a ++ enc b := by simp [enc]
theorem enc_one (l : List UInt8) : ∀ u ∈ enc l, u.oneCell' = true := by
  intro u hu
  simp only [enc, List.mem_map] at hu
  obtain ⟨x, _, rfl⟩ := hu
  rfl
theorem info_u8 : (Tryd.prog.info? 5).map (fun i => (i.zero, i.size, i.bytes)) = some (some (.int .u8 0), 1, 1) := by kernel_rfl
end Cl
theorem info_parts {o : Option TypeInfo} {z : Value} {s b : Nat} (h : o.map (fun i => (i.zero, i.size, i.bytes)) = some (some z, s, b)) : ∃ i, o = some i ∧ i.zero = some z ∧ i.size = s ∧ i.bytes = b := by
  cases o with
  | none => simp at h
  | some i => simp at h; exact ⟨i, rfl, h.1, h.2.1, h.2.2⟩
/-- v is a slice of bytes of one's own that holds just l -/
abbrev BRow (W : World) (B : Nat) (v : Value) (l : List UInt8) : Prop := W.ownsRow B 5 1 v l.length (Cl.enc l)
section
variable {W W' : World} {B : Nat} {v : Value} {l : List UInt8}
theorem BRow.stay (h : BRow W B v l) (hk : ∀ g, B ≤ g → g < W.heap.size → W'.heap[g]? = W.heap[g]?) : BRow W' B v l := by
  rcases h.2 with h0 | ⟨g, cap, cur, e, hg, hh, r⟩
  · exact ⟨h.1, .inl h0⟩
  · exact ⟨h.1, .inr ⟨g, cap, cur, e, hg, (hk g hg (Array.getElem?_eq_some_iff.1 hh).1).trans hh, r⟩⟩
theorem BRow.grown {row : Option Nat} (h : BRow W B v l) (hg : W.grownBy W' row) (hr : ∀ g, v.ownBlock = some g → some g ≠ row) : BRow W' B v l := by
  rcases h.2 with h0 | ⟨g, cap, cur, e, hb, hh, r⟩
  · exact ⟨h.1, .inl h0⟩
  · exact ⟨h.1, .inr ⟨g, cap, cur, e, hb, (hg.block g (Array.getElem?_eq_some_iff.1 hh).1 (hr g (by rw [e]; rfl))).trans hh, r⟩⟩
theorem BRow.cells (h : BRow W B v l) {g : Nat} (e : v.ownBlock = some g) : ∃ cur, W.heap[g]? = some (.cells cur 5 (0, 0)) := by
  rcases h.2 with ⟨rfl, _⟩ | ⟨g', cap, cur, rfl, hb, hh, r⟩
  · cases e
  · cases e; exact ⟨cur, hh⟩
theorem BRow.slice (h : BRow W B v l) : ∃ a n c, v = .slice a n c := by
  rcases h.2 with ⟨rfl, _⟩ | ⟨g', cap, cur, rfl, _⟩
  · exact ⟨_, _, _, rfl⟩
  · exact ⟨_, _, _, rfl⟩
theorem BRow.ge (h : BRow W B v l) {g : Nat} (e : v.ownBlock = some g) : B ≤ g ∧ g < W.heap.size := World.ownsRow.lt h g e
end
theorem run_app_one (w : World) (ty : TypeId) (base : Nat) (v : Value) (l : List UInt8) (y : UInt8) (hown : BRow w base v l) (hz : l.length ≤ 1000000000) (hbase : base ≤ w.heap.size) :
    ∃ v' w', (Builtin.append_ #[22, 22] ty #[v, .slice (some ⟨w.heap.size, 0, none⟩) 1 1]).run Tryd.prog (w.alloc (.cells #[.int .u8 (y.toNat : Int)] 5)) = .ok v' w' ∧ BRow w' base v' (l ++ [y]) ∧ w.grownBy w' v.ownBlock ∧ (v'.ownBlock = v.ownBlock ∨ v'.ownBlock = some (w.heap.size + 1)) := by
  obtain ⟨i0, hi, hz0, hz1, hz2⟩ := info_parts Cl.info_u8
  have hown' : BRow (w.alloc (.cells #[.int .u8 (y.toNat : Int)] 5)) base v l := hown.grown (World.grownBy_alloc w _ none) (fun _ _ => by simp)
  obtain ⟨v', w', hr, h2, h3, _, h5⟩ := run_append_own_at (P := Tryd.prog) _ base 22 ty 5 i0 (.int .u8 0) 1 1 Tryd.underlying22 hi hz0 hz1 hz2 rfl (by decide) v l.length (Cl.enc l) hown' ⟨w.heap.size, 0, none⟩ 1 1 (Cl.enc [y]) rfl
    (fun j u hu => by
      have hb := Blk.new w 5 #[.int .u8 (y.toNat : Int)]
      match j, hu with
      | 0, hu => simp [Cl.enc] at hu; subst hu; exact (hb.cl 0 _ rfl).1
      | j + 1, hu => simp [Cl.enc] at hu) (Cl.enc_one _) (by unfold maxLen; omega) (by omega) (by simp; omega)
  refine ⟨v', w', hr, ?_, ?_, ?_⟩
  · show World.ownsRow _ _ _ _ _ _ _
    rw [List.length_append, Cl.enc_app]
    exact h2
  · exact ⟨h3.os, h3.tape, h3.output, Nat.le_trans (by simp) h3.size, fun k hk hr => (h3.block k (by simp; omega) hr).trans (Below.heap_alloc w _ k hk)⟩
  · simpa using h5
/-- append, as one word -/
def App (ats : Array TypeId) (ty : TypeId) (args : Array Value) : Sem Value := Builtin.append_ ats ty args
theorem app_eq (ats : Array TypeId) (ty : TypeId) (args : Array Value) : Builtin.append_ ats ty args = App ats ty args := rfl
attribute [local go_sem ↓] app_eq
/-- but for block C, what lies below B lies as it lay -/
structure But (B C : Nat) (w w' : World) : Prop where
  os : w'.os = w.os
  tape : w'.tape = w.tape
  output : w'.output = w.output
  size : w.heap.size ≤ w'.heap.size
  block : ∀ k, k < B → k ≠ C → w'.heap[k]? = w.heap[k]?
theorem But.refl (B C : Nat) (w : World) : But B C w w := ⟨rfl, rfl, rfl, Nat.le_refl _, fun _ _ _ => rfl⟩
theorem But.trans {B C : Nat} {a b c : World} (h : But B C a b) (k : But B C b c) : But B C a c :=
  ⟨k.os.trans h.os, k.tape.trans h.tape, k.output.trans h.output, Nat.le_trans h.size k.size, fun i hi hc => (k.block i hi hc).trans (h.block i hi hc)⟩
theorem But.grown {B C : Nat} {a b c : World} {row : Option Nat} (h : But B C a b) (hg : b.grownBy c row) (hB : B ≤ b.heap.size) (hr : ∀ g, row = some g → B ≤ g ∨ g = C) : But B C a c :=
  ⟨hg.os.trans h.os, hg.tape.trans h.tape, hg.output.trans h.output, Nat.le_trans h.size hg.size, fun i hi hc => (hg.block i (by omega) (fun e => by rcases hr i e.symm with h | h <;> omega)).trans (h.block i hi hc)⟩
theorem But.below {B C : Nat} {a b c : World} (h : But B C a b) (hb : Below B b c) : But B C a c :=
  ⟨hb.os.trans h.os, hb.tape.trans h.tape, hb.output.trans h.output, Nat.le_trans h.size hb.size, fun i hi hc => (hb.block i hi).trans (h.block i hi hc)⟩
/-- The Coil at C holds the bytes l, in memory from B on. -/
def CoilAt (W : World) (C B : Nat) (l : List UInt8) : Prop := ∃ v, Blk W C 54 #[v] ∧ BRow W B v l
set_option maxRecDepth 100000 in
theorem up_neg (C : Nat) (n : Int) (hn : n < 0) (w : World) :
    Calls Tryd.prog 28 #[.pointer (some ⟨C, 0, none⟩), .int .i64 n] w fun e w' => e = .returned (.bool false) ∧ w.alloc (.cells #[.pointer (some ⟨C, 0, none⟩)] 62) = w' := by
  go_enter Tryd.func28, Tryd.ntmps28
  go_wp2
  go_ret
  exact ⟨rfl, rfl⟩
theorem Blk.ne {W : World} {g : Nat} {t : TypeId} {cs : Array Value} {row : Option Nat} (h : Blk W g t cs) (hr : ∀ r, row = some r → ∃ o : Obj, W.heap[r]? = some o ∧ o.isCells = false) : some g ≠ row := fun e => by
  obtain ⟨o, ho, hc⟩ := hr g e.symm
  rw [show W.heap[g]? = _ from h] at ho
  cases ho
  cases hc
theorem BRow.ne {W : World} {B : Nat} {v : Value} {l : List UInt8} {row : Option Nat} (h : BRow W B v l) (hr : ∀ r, row = some r → ∃ o : Obj, W.heap[r]? = some o ∧ o.isCells = false) : ∀ g, v.ownBlock = some g → some g ≠ row := fun g hg e => by
  obtain ⟨cur, hh⟩ := h.cells hg
  exact Blk.ne (W := W) (g := g) (t := 5) (cs := cur) hh hr e
theorem BRow.other {W : World} {B : Nat} {v : Value} {l : List UInt8} {g : Nat} {t : TypeId} {cs : Array Value} (h : BRow W B v l) (hb : Blk W g t cs) (ht : t ≠ 5) : v.ownBlock ≠ some g := fun e => by
  obtain ⟨cur, hh⟩ := h.cells e
  rw [show W.heap[g]? = _ from hb] at hh
  injection hh with hh
  injection hh with _ h2 _
  exact ht h2
/-- what holds behind each digit -/
def UpI (C B n : Nat) (l : List UInt8) (w : World) (pre : List UInt8) (W : World) : Prop :=
  CoilAt W C B (l ++ pre) ∧ Blk W w.heap.size 62 #[.pointer (some ⟨C, 0, none⟩)] ∧ Blk W (w.heap.size + 1) 3 #[.int .i64 n] ∧ But B C w W ∧ w.heap.size + 2 ≤ W.heap.size ∧ pre.length ≤ 10
theorem upI_own (C B n : Nat) (l : List UInt8) (w : World) (hB : B ≤ w.heap.size) : OwnFrom ((w.alloc (.cells #[.pointer (some ⟨C, 0, none⟩)] 62)).alloc (.cells #[.int .i64 n] 3)).heap.size (UpI C B n l w) := by
  rintro pre W W' row ⟨⟨v, hv, hr⟩, hb0, hb1, hbut, hsz, hpl⟩ hg hrow
  have hnc : ∀ r, row = some r → ∃ o : Obj, W.heap[r]? = some o ∧ o.isCells = false := fun r e => (hrow r e).2
  exact ⟨⟨v, hv.grown hg (hv.ne hnc), hr.grown hg (hr.ne hnc)⟩, hb0.grown hg (hb0.ne hnc), hb1.grown hg (hb1.ne hnc), hbut.grown hg (by omega) (fun g e => .inl (by have := (hrow g e).1; simp at this; omega)), Nat.le_trans hsz hg.size, hpl⟩
theorem up_fin {C B n : Nat} {l : List UInt8} {w W w3 : World} {pre : List UInt8} {x : UInt8} {v v' : Value} (hv3 : Blk w3 C 54 #[v]) (hrow : BRow w3 B v' (l ++ pre ++ [x])) (hb03 : Blk w3 w.heap.size 62 #[.pointer (some ⟨C, 0, none⟩)]) (hb13 : Blk w3 (w.heap.size + 1) 3 #[.int .i64 n]) (hb1 : Blk W (w.heap.size + 1) 3 #[.int .i64 n])
    (hbut3 : But B C w w3) (hsz : w.heap.size + 2 ≤ w3.heap.size) (hlen : pre.length < 10) (hB : B ≤ w.heap.size) (hk3 : KeepsOthers W w3) :
    KeepsOthers W (w3.setCell ⟨C, 0, none⟩ v') ∧ KeepsAt (w.heap.size + 1) W (w3.setCell ⟨C, 0, none⟩ v') ∧ UpI C B n l w (pre ++ [x]) (w3.setCell ⟨C, 0, none⟩ v') := by
  have hne0 : C ≠ w.heap.size := fun e => by
    rw [← e] at hb03
    have := (show w3.heap[C]? = _ from hv3).symm.trans hb03
    simp at this
  have hne1 : C ≠ w.heap.size + 1 := fun e => by
    rw [← e] at hb13
    have := (show w3.heap[C]? = _ from hv3).symm.trans hb13
    simp at this
  have hg := grown_set w3 C 0 v'
  have hb1f := hb13.other (p := ⟨C, 0, none⟩) hne1 v'
  refine ⟨hk3.trans (KeepsOthers.setCell _ _ _), ?_, ⟨v', hv3.set 0 _, ?_⟩, hb03.other (p := ⟨C, 0, none⟩) hne0 v', hb1f, hbut3.grown hg (by omega) (fun g e => .inr (by injection e with e; exact e.symm)), Nat.le_trans hsz hg.size, by simp; omega⟩
  · exact (show _ = _ from hb1f).trans (show _ = _ from hb1).symm
  · rw [← List.append_assoc]
    exact hrow.grown hg (fun g e e' => hrow.other hv3 (by decide) (by rw [e, e']))
set_option maxRecDepth 100000 in
set_option maxHeartbeats 2000000 in
theorem coilUp_any (C B n : Nat) (l : List UInt8) (hn : n < 9223372036854775808) (w : World) (hB : B ≤ w.heap.size) (hC : CoilAt w C B l) (hl : l.length ≤ 100000000) :
    Calls Tryd.prog 28 #[.pointer (some ⟨C, 0, none⟩), .int .i64 n] w fun e w' => e = .returned (.bool true) ∧ CoilAt w' C B (l ++ Cl.upL n) ∧ But B C w w' := by
  refine (callsIn_wide (n := 3)).1 ?_
  refine callsIn_of_wp_marks Tryd.func28 rfl trivial ?_ rfl
  simp only [Tryd.ntmps28, List.size_toArray, List.length_cons, List.length_nil, Nat.reduceAdd, Nat.reduceSub, Array.replicate_succ, Array.replicate_zero, List.push_toArray, List.append_toArray, List.nil_append, List.cons_append]
  have HD := Lib.hid (digits_any n (w.alloc (.cells #[.pointer (some ⟨C, 0, none⟩)] 62)))
  gi_wp2_with (refine ⟨trivial, ?_⟩; gi_at_call 37; refine (callsIn_wide.2 HD.out).mono ?_; rintro e w' ⟨rfl, rfl⟩)
  have hB0 : Below w.heap.size w ((w.alloc (.cells #[.pointer (some ⟨C, 0, none⟩)] 62)).alloc (.cells #[.int .i64 n] 3)) := ((Below.refl _ w).alloc (Nat.le_refl _) _).alloc (by simp) _
  have b0 : Blk ((w.alloc (.cells #[.pointer (some ⟨C, 0, none⟩)] 62)).alloc (.cells #[.int .i64 n] 3)) w.heap.size 62 #[.pointer (some ⟨C, 0, none⟩)] := (Blk.new w _ _).alloc _
  have b1 : Blk ((w.alloc (.cells #[.pointer (some ⟨C, 0, none⟩)] 62)).alloc (.cells #[.int .i64 n] 3)) (w.heap.size + 1) 3 #[.int .i64 n] := by
    have := Blk.new (w.alloc (.cells #[.pointer (some ⟨C, 0, none⟩)] 62)) 3 #[.int .i64 n]
    rwa [World.size_alloc] at this
  obtain ⟨v0, hv0, hr0⟩ := hC
  have hS0 := digits_stops (w.heap.size + 1) n hn _ b1
  refine wpIn_rangeFunc_ownF rfl (by decide) (gf := 40) (lb := #[.pointer (some ⟨w.heap.size + 1, 0, none⟩)]) rfl trivial digits1_enters hS0 (fun h k => k.trans h) (fun W l o o' hl _ _ _ => World.putObj_heap_other (by simp at hl; omega)) (Below.refl _ _) (fun _ => rfl)
    (fun pre W => UpI C B n l w pre W)
    (fun _ _ _ => False)
    (upI_own C B n l w hB)
    (fun _ _ _ _ _ hs _ _ => hs)
    ⟨⟨v0, (hv0.alloc _).alloc _, by rw [List.append_nil]; exact (hr0.grown (World.grownBy_alloc _ _ none) (fun _ _ => by simp)).grown (World.grownBy_alloc _ _ none) (fun _ _ => by simp)⟩, b0, b1, (But.refl B C w).below (hB0.mono hB), by simp, by simp⟩
    (fun x => { tmps := #[.pointer (some ⟨C, 0, none⟩), .int .i64 n, .pointer (some ⟨w.heap.size, 0, none⟩), undef, .bool false, .int .u8 x.toNat, .int .i64 n, .bool (decide ((n : Int) < 0)), .int .i64 n, .func (.func 40) #[] #[.pointer (some ⟨w.heap.size + 1, 0, none⟩)], .int .u8 x.toNat, undef, undef, undef, undef, undef, undef, undef, undef, undef, undef], defers := [] }) ?assign ?body ?done ?stop
  case assign =>
    intro l x W K hK
    gi_wp2
    exact hK
  case body =>
    rintro lp pre x W ⟨⟨v, hv, hr⟩, hb0, hb1, hbut, hsz, hpl⟩ hlen
    obtain ⟨v', w3, hrun, hrow, hgr, how⟩ := run_app_one W.drew 22 B v (l ++ pre) x hr (by simp; omega) (by have := hbut.size; show B ≤ W.heap.size; omega)
    have hap : Sem.run Tryd.prog (App #[22, 22] 22 #[v, .slice (some ⟨W.heap.size, 0, none⟩) 1 1]) (W.alloc (.cells #[.int .u8 (x.toNat : Int)] 5)).drew = .ok v' w3 := hrun
    clear hrun
    have hg3 : W.grownBy w3 v.ownBlock := ⟨hgr.os, hgr.tape, hgr.output, hgr.size, hgr.block⟩
    have hv3 : Blk w3 C 54 #[v] := hv.grown hg3 (fun e => hr.other hv (by decide) e.symm)
    have hb03 := hb0.grown hg3 (fun e => hr.other hb0 (by decide) e.symm)
    have hb13 := hb1.grown hg3 (fun e => hr.other hb1 (by decide) e.symm)
    have hk3 : KeepsOthers W w3 := KeepsOthers.of_grownBy hg3 (fun j o ej hj => by
      obtain ⟨cur, hh⟩ := hr.cells ej
      rw [hh] at hj
      cases hj
      rfl)
    have hbut3 : But B C w w3 := hbut.grown hg3 (by have := hbut.size; omega) (fun g e => .inl (hr.ge e).1)
    have HFIN := Lib.hid (up_fin (C := C) (B := B) (n := n) (l := l) (w := w) (pre := pre) (x := x) hv3 hrow hb03 hb13 hb1 hbut3 (Nat.le_trans hsz hg3.size) hlen hB hk3)
    clear hgr how hlen hpl hg3 hk3 hbut3 hb13 hb1 hbut hS0 hr0 hv0 b1 b0 hB0 HD hsz hB hl hn
    obtain ⟨a1, n1, c1, rfl⟩ := hr.slice
    obtain ⟨a2, n2, c2, rfl⟩ := hrow.slice
    have hcv : W.cell? ⟨C, 0, none⟩ = some (.slice a1 n1 c1) := (hv.cl 0 _ rfl).1
    have hcb : W.cell? ⟨w.heap.size, 0, none⟩ = some (.pointer (some ⟨C, 0, none⟩)) := (hb0.cl 0 _ rfl).1
    have hcv3 : w3.cell? ⟨C, 0, none⟩ = some (.slice a1 n1 c1) := (hv3.cl 0 _ rfl).1
    have hfv3 := (hv3.cl 0 _ rfl).2
    have hcva : (W.alloc (.cells #[.int .u8 (x.toNat : Int)] 5)).cell? ⟨C, 0, none⟩ = some (.slice a1 n1 c1) := ((hv.alloc _).cl 0 _ rfl).1
    have hcba : (W.alloc (.cells #[.int .u8 (x.toNat : Int)] 5)).cell? ⟨w.heap.size, 0, none⟩ = some (.pointer (some ⟨C, 0, none⟩)) := ((hb0.alloc _).cl 0 _ rfl).1
    have hcb3 : w3.cell? ⟨w.heap.size, 0, none⟩ = some (.pointer (some ⟨C, 0, none⟩)) := (hb03.cl 0 _ rfl).1
    clear hr hrow hv hv3 hb0 hb03
    generalize w.heap.size = N at hcb hcba hcb3 HFIN
    gi_wp2
    gi_region
    all_goals exact HFIN.out
  case done =>
    rintro D ys W hD rfl ⟨hC, hb0, hb1, hbut, hsz, hpl⟩ hK
    gi_wp2
    refine ⟨by simp, .inl ⟨_, _, rfl, run_takeDeferred hK, ?_⟩⟩
    have hD' : w.heap.size ≤ D := by simp at hD; omega
    refine ⟨_, results_tmp rfl _ _ _, rfl, ?_, ?_⟩
    · obtain ⟨v, hv, hr⟩ := hC
      have hnc : ∀ r, some D = some r → ∃ o : Obj, W.heap[r]? = some o ∧ o.isCells = false := fun r e => by cases e; exact ⟨_, hK, rfl⟩
      exact ⟨v, hv.grown (grownBy_putObj' W D _) (hv.ne hnc), hr.grown (grownBy_putObj' W D _) (hr.ne hnc)⟩
    · exact hbut.grown (grownBy_putObj' W D _) (by omega) (fun g e => .inl (by injection e with e; omega))
  case stop =>
    rintro D c pre W _ _ h _
    exact h.elim
end Go.Proofs.YtdiokcmhpndoeaaDoor
