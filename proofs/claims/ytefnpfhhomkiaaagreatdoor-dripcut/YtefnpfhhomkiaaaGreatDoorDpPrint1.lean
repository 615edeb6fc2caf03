
/- What drip.measurement answers; what drip.Print's walk asks for. -/
import Derived.Test.YtefnpfhhomkiaaaGreatDoorDpGoodC
import Derived.Test.YtefnpfhhomkiaaaGreatDoorDpRefPrintC
import Derived.Test.YtefnpfhhomkiaaaGreatDoorDpOrder1
import Derived.Test.YtefnpfhhomkiaaaGreatDoorTgAll
import Derived.Test.YtefnpfhhomkiaaaGreatDoorGrF
import Derived.Test.YtefnpfhhomkiaaaGreatDoorGrB
import Derived.Test.YtefnpfhhomkiaaaGreatDoorGrC
namespace Go.Proofs.YtefnpfhhomkiaaaGreatDoor
open Go.RowKit Go.Shelf
namespace Dp
/-- the tables of Go's own that fix.Text and strconv.Itoa read -/
abbrev Env1 (w : World) : Prop := Go.Proofs.YtefnpfhhomkiaaaGreatDoor.Env w
/-- both layers' package variables -/
abbrev Both (w : World) : Prop := Env w ∧ Env1 w
theorem itoa_any (n : Int) (h : 0 ≤ n ∧ n ≤ 9223372036854775807) (w : World) (hE : Env1 w) :
    Calls Tryz.prog 25 #[.int .i64 n] w fun e w' => e = .returned (strV (dec n)) ∧ Below w.heap.size w w' := by
  refine (Tryz.strconv_Itoa n (by omega) h.2 w hE.1).mono ?_
  rintro e w' ⟨rfl, k, os, rfl⟩
  refine ⟨?_, Lib.below_grow _ w (Nat.le_refl _) k os⟩
  unfold Lib.itoa
  rw [if_neg (by omega)]
  rfl
set_option maxRecDepth 100000 in
set_option maxHeartbeats 1000000 in
theorem measurement_any (e : Ev) (v : Value) (w : World) (hE : Env1 w) (hv : Fx.lo ≤ e.val ∧ e.val ≤ Fx.hi) :
    Calls Tryz.prog 24 #[evV e v] w fun r w' => r = .returned (strV (measT e)) ∧ Below w.heap.size w w' := by
  have HPI := Lib.hid (prI_new w e v)
  obtain ⟨W1, hW1⟩ : ∃ W1, w.alloc (evO e v) = W1 := ⟨_, rfl⟩
  rw [hW1] at HPI
  obtain ⟨p0, p1, p2, p3, p4, p5, p6, p7, p8⟩ := cells9 HPI.out.k
  have HTX := fun W (h : Below w.heap.size w W) => Lib.hid (text_any e.val hv W (hE.below h))
  clear hE
  by_cases h4 : e.kind = 4
  · have g4 : (e.kind == 4) = true := beq_iff_eq.2 h4
    have HR : Hid (measT e = e.mem) := by show _ = _; unfold measT; rw [if_pos h4]
    clear h4
    go_enter Tryz.func24, Tryz.ntmps24
    go_wp2
    go_ret
    exact ⟨by rw [HR.out]; rfl, HPI.out.bl⟩
  · have g4 : (e.kind == 4) = false := beq_eq_false_iff_ne.2 h4
    have HR : Hid (measT e = Fx.textL e.val) := by show _ = _; unfold measT; rw [if_neg h4]
    clear h4
    go_enter Tryz.func24, Tryz.ntmps24
    go_wp2_with fail
    refine (HTX _ HPI.out.bl).out.mono ?_
    rintro r W2 ⟨rfl, hb2⟩
    have HB2 := Lib.hid (HPI.out.next hb2).bl
    clear hb2
    go_wp2
    go_ret
    exact ⟨by rw [HR.out]; rfl, HB2.out⟩
/-- a builder stays where no block changes -/
theorem bld_below {B b : Nat} {l : List UInt8} {w w' : World} (h : Y2.Bld B b l w) (hb : Below w.heap.size w w') : Y2.Bld B b l w' :=
  h.kept (row := none) (grown_below hb) (fun r e => by cases e)
theorem bld_lt {B b : Nat} {l : List UInt8} {w : World} (h : Y2.Bld B b l w) : B ≤ b ∧ b < w.heap.size := by
  obtain ⟨h1, cs, h2⟩ := h.at
  exact ⟨h1, (Array.getElem?_eq_some_iff.1 h2).1⟩
theorem blk_others {w w' : World} {g b : Nat} {t e : TypeId} {cs : Array Value} (h : Blk w g t cs) (hk : Lib.OthersKept e (some b) w w') (hne : g ≠ b) (ht : t ≠ e) : Blk w' g t cs :=
  hk g _ h (fun e' => hne (by injection e')) (fun c fz e' => by cases e'; exact ht rfl)
/-- the event's block and the builder, in a world that only grew -/
structure PrB (w W : World) (e : Ev) (v : Value) (bb : Nat) (l : List UInt8) : Prop where
  pr : PrI w W e v
  bd : Y2.Bld w.heap.size bb l W
  ne : w.heap.size < bb
theorem PrB.next {w W W' : World} {e : Ev} {v : Value} {bb : Nat} {l : List UInt8} (h : PrB w W e v bb l) (hb : Below W.heap.size W W') : PrB w W' e v bb l := ⟨h.pr.next hb, bld_below h.bd hb, h.ne⟩
theorem PrB.write {w W W' : World} {e : Ev} {v : Value} {bb : Nat} {l l' : List UInt8} (h : PrB w W e v bb l) (hd : Y2.Bld w.heap.size bb l' W') (hb : Below w.heap.size W W') (hk : Lib.OthersKept 5 (some bb) W W') : PrB w W' e v bb l' :=
  ⟨⟨h.pr.bl.trans hb, blk_others h.pr.k hk (by have := h.ne; omega) (by decide)⟩, hd, h.ne⟩
theorem PrB.start {w W : World} {e : Ev} {v : Value} {bb : Nat} (h : PrI w W e v) (hb : Blk W bb 44 #[.pointer none, .slice none 0 0]) (hlt : w.heap.size < bb) : PrB w W e v bb [] :=
  ⟨h, .inl ⟨Nat.le_of_lt hlt, .slice none 0 0, hb, ⟨rfl, .inl ⟨rfl, rfl⟩⟩, by simp [Value.ownBlock]⟩, hlt⟩
theorem PrB.writes {w W : World} {e : Ev} {v : Value} {bb : Nat} {l : List UInt8} (h : PrB w W e v bb l) (s : List UInt8) (hl : l.length + s.length ≤ 1000000) :
    Calls Tryz.prog 23 #[.pointer (some ⟨bb, 0, none⟩), .string (B s)] W fun r W' => r = .returned (.tuple #[.int .i64 (B s).size, .nilIface]) ∧ PrB w W' e v bb (l ++ s) ∧ (Below w.heap.size W W' ∧ Lib.OthersKept 5 (some bb) W W' ∧ W.heap.size ≤ W'.heap.size) := by
  refine (Y2.writeString_any w.heap.size bb l (B s) W h.bd (by rw [B_size]; exact hl) h.pr.bl.size).mono ?_
  rintro r W' ⟨rfl, hd, hb, hk, hs⟩
  have hd' : Y2.Bld w.heap.size bb (l ++ s) W' := hd
  exact ⟨rfl, h.write hd' hb hk, hb, hk, hs⟩
/-- the word's cell -/
theorem Env.word {w W : World} (h : Env w) (hb : Below w.heap.size w W) {k : Nat} (h1 : 1 ≤ k) (h4 : k ≤ 4) : W.cell? ⟨0, k, none⟩ = some (strV (word k)) := by
  have hW := h.below hb
  obtain rfl | rfl | rfl | rfl : k = 1 ∨ k = 2 ∨ k = 3 ∨ k = 4 := by omega
  · exact hW.w1
  · exact hW.w2
  · exact hW.w3
  · exact hW.w4
theorem preB_app (e : Ev) : B e.met ++ ⟨#[58]⟩ ++ B (measT e) ++ ⟨#[124]⟩ ++ B (word e.kind) = B (preB e) := by
  show B e.met ++ B [58] ++ B (measT e) ++ B [124] ++ B (word e.kind) = _
  rw [B_app, B_app, B_app, B_app]
  unfold preB preA
  simp
theorem last_app (e : Ev) : (⟨#[124, 84]⟩ : ByteArray) ++ B (dec e.time) ++ ⟨#[124, 83]⟩ ++ B e.src ++ ⟨#[46]⟩ ++ B (dec e.seq) = B ((124 :: 84 :: dec e.time) ++ (124 :: 83 :: (e.src ++ 46 :: dec e.seq))) := by
  show B [124, 84] ++ B (dec e.time) ++ B [124, 83] ++ B e.src ++ B [46] ++ B (dec e.seq) = _
  rw [B_app, B_app, B_app, B_app, B_app]
  simp
end Dp
end Go.Proofs.YtefnpfhhomkiaaaGreatDoor
