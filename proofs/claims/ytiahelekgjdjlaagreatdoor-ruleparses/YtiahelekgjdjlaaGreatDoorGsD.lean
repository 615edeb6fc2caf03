/- strings.SplitSeq at one byte: an iterator over a text's parts, which keeps what is left in a block of its own. A function that ranges over functions within a loop of its own: the marks that it leaves with, however many. What package glob's plain and choice answer. What package glob's first answers: the token that a text begins with. What package glob's pieces, Good and Plain answer. What package glob's Good, Plain and Tokens answer. -/
import Derived.Test.YtiahelekgjdjlaaGreatDoorGsC
import Derived.Test.YtiahelekgjdjlaaGreatDoorGsB
import Derived.Test.YtiahelekgjdjlaaGreatDoorShelf
import Derived.LoopIn
import Derived.Laws.EntriesVeiled
import Derived.Shelf.AbstractIn
import Derived.ShutString
import Derived.RangeFuncBox
import Derived.RangeFuncLeaves
import Derived.Test.YtiahelekgjdjlaaGreatDoorGsW
import Derived.Shelf.Strings.SlTrimAscii
namespace Go.Proofs.YtiahelekgjdjlaaGreatDoor
open Go.RowKit Go.Shelf
attribute [local go_sem] Oper.semAt_some
open Dp
namespace Gb
/-- what the rounds must leave: the iterator's three blocks -/
def Keep3 (b : Nat) (A B : World) : Prop := ∀ i, i < 3 → ∀ t cs, Blk A (b + i) t cs → Blk B (b + i) t cs
theorem Keep3.refl (b : Nat) (A : World) : Keep3 b A A := fun _ _ _ _ h => h
theorem Keep3.trans {b : Nat} {A B C : World} (h : Keep3 b A B) (k : Keep3 b B C) : Keep3 b A C := fun i hi t cs hb => k i hi t cs (h i hi t cs hb)
/-- what the iterator keeps -/
structure Box3 (W : World) (b : Nat) (c : UInt8) (r : List UInt8) : Prop where
  s : Blk W b 9 #[.string (B r)]
  sep : Blk W (b + 1) 9 #[.string ⟨#[c]⟩]
  save : Blk W (b + 2) 3 #[.int .i64 0]
theorem Box3.keep {W W' : World} {b : Nat} {c : UInt8} {r : List UInt8} (h : Box3 W b c r) (k : Keep3 b W W') : Box3 W' b c r := ⟨k 0 (by decide) _ _ h.s, k 1 (by decide) _ _ h.sep, k 2 (by decide) _ _ h.save⟩
theorem Box3.below {W W' : World} {b : Nat} {c : UInt8} {r : List UInt8} (h : Box3 W b c r) (k : Below W.heap.size W W') : Box3 W' b c r := ⟨h.s.below k h.s.lt, h.sep.below k h.sep.lt, h.save.below k h.save.lt⟩
theorem Box3.set {W : World} {b : Nat} {c : UInt8} {r : List UInt8} (h : Box3 W b c r) (r' : List UInt8) : Box3 (W.setCell ⟨b, 0, none⟩ (.string (B r'))) b c r' :=
  ⟨h.s.set 0 _, h.sep.other (by show b ≠ b + 1; omega) _, h.save.other (by show b ≠ b + 2; omega) _⟩
def leftM (b : Nat) (W : World) : Nat := match W.cell? ⟨b, 0, none⟩ with
  | some (.string s) => s.size
  | _ => 0
theorem leftM_eq {W : World} {b : Nat} {c : UInt8} {r : List UInt8} (h : Box3 W b c r) : leftM b W = r.length := by
  unfold leftM
  rw [(h.s.cl 0 _ rfl).1]
  exact B_size r
theorem index_hit {c : UInt8} {a : List UInt8} (b : List UInt8) (h : c ∉ a) : Lib.indexByte (a ++ c :: b) c = (a.length : Int) := by rw [← Lib.index_one]; exact index_app b h
theorem index_miss {c : UInt8} {l : List UInt8} (h : c ∉ l) : Lib.indexByte l c = -1 := by rw [← Lib.index_one]; exact index_not h
theorem B_take (a b : List UInt8) (c : UInt8) : (B (a ++ c :: b)).extract 0 a.length = B a := by
  rw [Lib.extract_eq]; simp
theorem B_drop (a b : List UInt8) (c : UInt8) : (B (a ++ c :: b)).extract (a.length + 1) (B (a ++ c :: b)).size = B b := by
  rw [Lib.extract_eq, B_size]
  have e : (a ++ c :: b).drop (a.length + 1) = b := by simp
  show B (((a ++ c :: b).drop (a.length + 1)).take _) = _
  rw [e, List.take_of_length_le (by simp; omega)]
theorem splitSeq1_enters : ∀ args w, (callFunc 188 args).run Tryz.prog w = .ok (.enter 188 args) w := enters_of Tryz.func188 (by kernel_rfl) rfl
set_option maxRecDepth 100000 in
set_option maxHeartbeats 4000000 in
theorem splitSeq1_any (c : UInt8) (l : List UInt8) (hl : l.length ≤ 100000) (b lp : Nat) (cont : List (List UInt8) → Bool) (J : List (List UInt8) → World → Prop) (Jx : World → Prop) (hab : ∀ l A B, J l A → Only [b] A B → J l B)
    (hY : ∀ x rest W, J (x :: rest) W → YieldAt Fence.wide 0 Tryz.prog lp #[.string (B x)] W fun e W' => e = .returned (.bool (cont rest)) ∧ Rk.Res J Jx (cont rest) rest W' ∧ Keep3 b W W')
    (W : World) (hB : Box3 W b c l) (hJ : J (spl c l) W) :
    Calls Tryz.prog 188 #[.func (.yield lp) #[] #[], .pointer (some ⟨b + 1, 0, none⟩), .pointer (some ⟨b, 0, none⟩), .pointer (some ⟨b + 2, 0, none⟩)] W fun e W' => (∃ v, e = .returned v) ∧ Rk.Res J Jx (Rk.run cont (spl c l) []) [] W' := by
  have HST : Hid (l.length ≤ 100000 ∧ Box3 W b c l ∧ J (spl c l) W) := ⟨hl, hB, hJ⟩
  obtain ⟨bsep, hbsep⟩ : ∃ x, b + 1 = x := ⟨_, rfl⟩
  obtain ⟨bsv, hbsv⟩ : ∃ x, b + 2 = x := ⟨_, rfl⟩
  have c1 : W.cell? ⟨bsep, 0, none⟩ = some (.string ⟨#[c]⟩) := by rw [← hbsep]; exact (hB.sep.cl 0 _ rfl).1
  have HAB := Lib.hid hab
  have HY := Lib.hid hY
  have HBP := Lib.hid hbsep
  have HBV := Lib.hid hbsv
  rw [hbsep, hbsv]
  obtain ⟨RR, hRR⟩ : ∃ RR, Rk.run cont (spl c l) [] = RR := ⟨_, rfl⟩
  rw [hRR]
  have HRR := Lib.hid hRR
  clear hab hY hB hJ hbsep hbsv hRR hl
  refine (callsIn_wide (n := 3)).1 ?_
  refine callsIn_of_wp Tryz.func188 rfl trivial ?_ rfl
  simp only [Tryz.ntmps188, List.size_toArray, List.length_cons, List.length_nil, Nat.reduceAdd, Nat.reduceSub, Array.replicate_succ, Array.replicate_zero, List.push_toArray, List.append_toArray, List.nil_append, List.cons_append]
  gi_wp2
  gi_loopw [7, 8] (fun _ _ wr => ∃ r, Hid (r.length ≤ 100000 ∧ Box3 wr b c r ∧ J (spl c r) wr ∧ RR = Rk.run cont (spl c r) [])) (fun _ _ wr => leftM b wr)
  case atStart => exact ⟨l, ⟨HST.out.1, HST.out.2.1, HST.out.2.2, HRR.out.symm⟩⟩
  case round =>
    clear c1 HST HRR
    obtain ⟨r, HR⟩ := hrel
    have c0 : wr.cell? ⟨b, 0, none⟩ = some (.string (B r)) := (HR.out.2.1.s.cl 0 _ rfl).1
    have c1 : wr.cell? ⟨bsep, 0, none⟩ = some (.string ⟨#[c]⟩) := by rw [← HBP.out]; exact (HR.out.2.1.sep.cl 0 _ rfl).1
    have c2 : wr.cell? ⟨bsv, 0, none⟩ = some (.int .i64 0) := by rw [← HBV.out]; exact (HR.out.2.1.save.cl 0 _ rfl).1
    have HIX := Lib.hid (Tryz.strings_Index_one (B r) c wr)
    rcases cut_cases c r with ⟨hn, -⟩ | ⟨a, t, hn, hr, -⟩
    · have HJ : Hid (J [r] wr ∧ RR = cont []) := by
        have h3 := HR.out.2.2.1
        have h4 := HR.out.2.2.2
        rw [spl_not hn] at h3 h4
        exact ⟨h3, by rw [h4]; simp [Rk.run]⟩
      have hix : Lib.indexByte (B r).data.toList c = -1 := index_miss hn
      rw [hix] at HIX
      obtain ⟨fn, tmps, assign, body, hy, hRR⟩ := HY.out r [] wr HJ.out.1
      have HRD := Lib.hid hRR
      clear hn hix hRR
      gi_wp2_with (first | (refine ⟨trivial, ?_⟩; gi_at_call 113; refine (callsIn_wide.2 HIX.out).mono ?_; rintro e w3 ⟨rfl, rfl⟩))
      gi_wp2
      refine (round_any HRD.out).mono ?_
      rintro e W3 ⟨rfl, R3, -⟩
      have HFIN : Hid (Rk.Res J Jx RR [] W3) := by rw [HJ.out.2]; exact R3
      clear R3
      gi_wp2
      go_end0
      exact ⟨⟨_, rfl⟩, HFIN.out⟩
    · have HJ : Hid (J (a :: spl c t) wr ∧ RR = (cont (spl c t) && Rk.run cont (spl c t) [])) := by
        have h3 := HR.out.2.2.1
        have h4 := HR.out.2.2.2
        rw [hr, spl_app t hn] at h3 h4
        exact ⟨h3, by rw [h4, Rk.run, List.append_nil]⟩
      have hix : Lib.indexByte (B r).data.toList c = (a.length : Int) := by rw [hr]; exact index_hit t hn
      rw [hix] at HIX
      obtain ⟨fn, tmps, assign, body, hy, hRR⟩ := HY.out a (spl c t) wr HJ.out.1
      have HRD := Lib.hid hRR
      have x1 := B_take a t c
      have x2 := B_drop a t c
      have hlr : r.length = a.length + 1 + t.length := by rw [hr]; simp; omega
      rw [← hr] at x1 x2
      have hBr := B_size r
      obtain ⟨s, hs⟩ : ∃ s, B r = s := ⟨_, rfl⟩
      obtain ⟨n, hna⟩ : ∃ n, a.length = n := ⟨_, rfl⟩
      rw [hs] at x1 x2 c0 HIX hBr
      rw [hna] at x1 x2 HIX hlr
      have hrl := HR.out.1
      have HLR := Lib.hid hlr
      have i0 : ¬ ((n : Int) < 0) := by omega
      have i1 : (n : Int) ≤ (s.size : Int) := by omega
      have i2 : (n : Int) + 1 ≤ (s.size : Int) := by omega
      have i4 : wrap64 (n : Int) = (n : Int) := IntWalk.wrap64_in _ ⟨by omega, by omega⟩
      have i3 : wrap64 ((n : Int) + 1) = (n : Int) + 1 := IntWalk.wrap64_in _ ⟨by omega, by omega⟩
      have HTL : Hid (t.length ≤ 100000) := by show _ ≤ _; omega
      clear hn hix hRR hlr hBr hrl hr
      obtain ⟨bb, hbb⟩ : ∃ bb, cont (spl c t) = bb := ⟨_, rfl⟩
      rw [hbb] at HRD HJ
      clear hbb
      gi_wp2_with (first | (refine ⟨trivial, ?_⟩; gi_at_call 113; refine (callsIn_wide.2 HIX.out).mono ?_; rintro e w3 ⟨rfl, rfl⟩))
      gi_wp2
      refine (round_any HRD.out).mono ?_
      rintro e W3 ⟨rfl, R3, K3⟩
      have HB3 := Lib.hid (HR.out.2.1.keep K3)
      have d0 : W3.cell? ⟨b, 0, none⟩ = some (.string s) := by rw [← hs]; exact (HB3.out.s.cl 0 _ rfl).1
      have d0f : W3.frozen? ⟨b, 0, none⟩ = false := (HB3.out.s.cl 0 _ rfl).2
      have d1 : W3.cell? ⟨bsep, 0, none⟩ = some (.string ⟨#[c]⟩) := by rw [← HBP.out]; exact (HB3.out.sep.cl 0 _ rfl).1
      cases bb with
      | false =>
        have HFIN : Hid (Rk.Res J Jx RR [] W3) := ⟨(fun h => by rw [HJ.out.2] at h; cases h), fun _ => R3.2 rfl⟩
        clear R3 K3
        gi_wp2
        refine bodyPost_ret (results_none rfl _ _ _) rfl ?_
        exact ⟨⟨_, rfl⟩, HFIN.out⟩
      | true =>
        have HN : Hid (t.length ≤ 100000 ∧ Box3 (W3.setCell ⟨b, 0, none⟩ (.string (B t))) b c t ∧ J (spl c t) (W3.setCell ⟨b, 0, none⟩ (.string (B t))) ∧ RR = Rk.run cont (spl c t) []) :=
          ⟨HTL.out, HB3.out.set t, HAB.out _ _ _ (R3.1 rfl) (Only.set W3 b 0 _ (by simp)), by rw [HJ.out.2, Bool.true_and]⟩
        clear R3 K3
        gi_wp2
        go_roundw
        case rel => exact ⟨t, HN⟩
        case measure =>
          rw [leftM_eq HN.out.2.1, leftM_eq HR.out.2.1, HLR.out]; omega
theorem splitSeq_any (s sep : ByteArray) (w : World) :
    Calls Tryz.prog 185 #[.string s, .string sep, .int .i64 0] w fun e w' => e = .returned (.func (.func 188) #[] #[.pointer (some ⟨w.heap.size + 1, 0, none⟩), .pointer (some ⟨w.heap.size, 0, none⟩), .pointer (some ⟨w.heap.size + 2, 0, none⟩)]) ∧ ((w.alloc (.cells #[.string s] 9)).alloc (.cells #[.string sep] 9)).alloc (.cells #[.int .i64 0] 3) = w' := by
  go_enter Tryz.func185, Tryz.ntmps185
  go_wp2
  go_ret
  exact ⟨by simp, rfl⟩
theorem box3_new (l : List UInt8) (c : UInt8) (w : World) : Box3 (((w.alloc (.cells #[.string (B l)] 9)).alloc (.cells #[.string ⟨#[c]⟩] 9)).alloc (.cells #[.int .i64 0] 3)) w.heap.size c l := by
  have h1 := Blk.new w 9 #[.string (B l)]
  have h2 := Blk.new (w.alloc (.cells #[.string (B l)] 9)) 9 #[.string ⟨#[c]⟩]
  have h3 := Blk.new ((w.alloc (.cells #[.string (B l)] 9)).alloc (.cells #[.string ⟨#[c]⟩] 9)) 3 #[.int .i64 0]
  simp only [World.size_alloc] at h2 h3
  exact ⟨(h1.alloc _).alloc _, h2.alloc _, h3⟩
/-- the parts of a text, one by one -/
theorem splitSeq_pub (l : List UInt8) (c : UInt8) (w : World) (hl : l.length ≤ 100000) :
    Calls Tryz.prog 177 #[.string (B l), .string ⟨#[c]⟩] w fun e w' => ∃ lbf, e = .returned (.func (.func 188) #[] lbf) ∧ SeqB Tryz.prog w.heap.size (Keep3 w.heap.size) (fun x : List UInt8 => #[.string (B x)]) w' 188 lbf (spl c l) ∧ Below w.heap.size w w' ∧ w'.heap.size = w.heap.size + 3 ∧ Box3 w' w.heap.size c l := by
  have H := Lib.hid (splitSeq_any (B l) ⟨#[c]⟩ w)
  have HX := Lib.hid (box3_new l c w)
  have HBW : Hid (Below w.heap.size w (((w.alloc (.cells #[.string (B l)] 9)).alloc (.cells #[.string ⟨#[c]⟩] 9)).alloc (.cells #[.int .i64 0] 3))) := ((((Below.refl _ w).alloc (Nat.le_refl _) _).alloc (by simp) _).alloc (by simp; omega) _)
  have HZ : Hid ((((w.alloc (.cells #[.string (B l)] 9)).alloc (.cells #[.string ⟨#[c]⟩] 9)).alloc (.cells #[.int .i64 0] 3)).heap.size = w.heap.size + 3) := by show _ = _; simp
  generalize ((w.alloc (.cells #[.string (B l)] 9)).alloc (.cells #[.string ⟨#[c]⟩] 9)).alloc (.cells #[.int .i64 0] 3) = w1 at H HX HBW HZ
  go_enter Tryz.func177, Tryz.ntmps177
  go_wp2_with fail
  refine H.out.mono ?_
  rintro e w2 ⟨rfl, rfl⟩
  go_wp2
  go_ret
  refine ⟨_, rfl, fun lp cont J Jx hab hY W hW hJ => ?_, HBW.out, HZ.out, HX.out⟩
  exact splitSeq1_any c l hl w.heap.size lp cont J Jx hab hY W (HX.out.below hW) hJ
end Gb
end Go.Proofs.YtiahelekgjdjlaaGreatDoor
namespace Go.Proofs.YtiahelekgjdjlaaGreatDoor
open Go.RowKit
/-- what goes by where marks are taken: no cells turn -/
def Shed (B : Nat) (W W' : World) : Prop := Below B W W' ∧ ∀ g t cs, Blk W g t cs → Blk W' g t cs
theorem Shed.refl (B : Nat) (W : World) : Shed B W W := ⟨Below.refl _ _, fun _ _ _ h => h⟩
theorem Shed.trans {B : Nat} {a b c : World} (h : Shed B a b) (k : Shed B b c) : Shed B a c := ⟨h.1.trans k.1, fun g t cs x => k.2 g t cs (h.2 g t cs x)⟩
def mark (D : Nat) : Deferred := { target := .collected D, args := #[] }
/-- the blocks Ds, from B on, each once, are marks' -/
def Marks (B : Nat) (Ds : List Nat) (W : World) : Prop := Ds.Nodup ∧ ∀ D ∈ Ds, B ≤ D ∧ W.heap[D]? = some (.deferred (some []))
theorem Marks.nil (B : Nat) (W : World) : Marks B [] W := ⟨List.nodup_nil, fun _ h => by cases h⟩
theorem Marks.lt {B : Nat} {Ds : List Nat} {W : World} (h : Marks B Ds W) {D : Nat} (hD : D ∈ Ds) : D < W.heap.size := (Array.getElem?_eq_some_iff.1 (h.2 D hD).2).1
theorem Marks.keep {B : Nat} {Ds : List Nat} {W W' : World} (h : Marks B Ds W) (hk : ∀ D ∈ Ds, W'.heap[D]? = W.heap[D]?) : Marks B Ds W' := ⟨h.1, fun D hD => ⟨(h.2 D hD).1, (hk D hD).trans (h.2 D hD).2⟩⟩
theorem Marks.below {B : Nat} {Ds : List Nat} {W W' : World} (h : Marks B Ds W) (hb : Below W.heap.size W W') : Marks B Ds W' := h.keep fun _ hD => hb.block _ (h.lt hD)
theorem Marks.set {B : Nat} {Ds : List Nat} {W : World} (h : Marks B Ds W) {g : Nat} {t : TypeId} {cs : Array Value} (hg : Blk W g t cs) (i : Nat) (v : Value) : Marks B Ds (W.setCell ⟨g, i, none⟩ v) := h.keep fun D hD => heap_set (fun e => by
  have h1 := (h.2 D hD).2
  have e' : g = D := e
  unfold Blk at hg
  rw [e', h1] at hg
  cases hg)
theorem Marks.grown {B : Nat} {Ds : List Nat} {W W' : World} {row : Option Nat} (h : Marks B Ds W) (hg : W.grownBy W' row) (hr : ∀ r, row = some r → r ∉ Ds) : Marks B Ds W' := h.keep fun D hD => hg.block D (h.lt hD) (fun e => hr D e.symm hD)
theorem Marks.cons {B : Nat} {Ds : List Nat} {W : World} {D : Nat} (h : Marks B Ds W) (hB : B ≤ D) (hD : W.heap[D]? = some (.deferred (some []))) (hn : D ∉ Ds) : Marks B (D :: Ds) W :=
  ⟨List.nodup_cons.2 ⟨hn, h.1⟩, fun E hE => by
    rcases List.mem_cons.1 hE with rfl | hE
    · exact ⟨hB, hD⟩
    · exact h.2 E hE⟩
theorem leaves_marks {F : Fence} {n : Nat} {P : Program} {fn : Func} {tmps : Array Value} {R : Ending → World → Prop} {B : Nat} : ∀ (Ds : List Nat) (W : World), Marks B Ds W → (∀ W', Shed B W W' → ∃ v, (results fn tmps).run P W' = .ok v W' ∧ R (.returned v) W') → LeavesInM F n P fn tmps R (Ds.map mark) .returning W
  | [], W, _, h => h W (Shed.refl _ _)
  | D :: Ds, W, hM, h => by
    have hD := hM.2 D (by simp)
    refine ⟨by simp, .inl ⟨D, _, rfl, run_takeDeferred hD.2, ?_⟩⟩
    have hnd := List.nodup_cons.1 hM.1
    have hS : Shed B W (W.putObj D (.deferred none)) := ⟨below_free (Below.refl B W) (by have := hM.lt (D := D) (by simp); omega) (grownBy_putObj' W D (.deferred none)) (fun r e => by cases e; exact hD.1), fun g t cs hb => (Free.put (.deferred none) hD.2 rfl).blk hb⟩
    refine leaves_marks Ds _ ⟨hnd.2, fun E hE => ⟨(hM.2 E (by simp [hE])).1, ?_⟩⟩ fun W' hW' => h W' (hS.trans hW')
    exact (World.putObj_heap_other (r := D) (k := E) (fun e => hnd.1 (e ▸ hE))).trans (hM.2 E (by simp [hE])).2
end Go.Proofs.YtiahelekgjdjlaaGreatDoor
namespace Go.Proofs.YtiahelekgjdjlaaGreatDoor
open Go.RowKit Go.Shelf
open Dp
attribute [local go_sem] Oper.semAt_some
namespace Gb
/-! ### Plain -/
/-- are all of a list such, each told with its place? -/
def chk {α : Type} (P : Nat → α → Bool) : Nat → List α → Bool
  | _, [] => true
  | i, x :: l => P i x && chk P (i + 1) l
/-- whether a round goes on: where rest is left behind it -/
def contP {α : Type} (P : Nat → α → Bool) (L rest : List α) : Bool := match L[L.length - rest.length - 1]? with
  | some x => P (L.length - rest.length - 1) x
  | none => true
theorem contP_at {α : Type} (P : Nat → α → Bool) (pre rest : List α) (x : α) : contP P (pre ++ x :: rest) rest = P pre.length x := by
  unfold contP
  rw [show (pre ++ x :: rest).length - rest.length - 1 = pre.length by rw [List.length_append, List.length_cons]; omega, List.getElem?_append_right (Nat.le_refl _), Nat.sub_self]
  rfl
theorem contP_run {α : Type} (P : Nat → α → Bool) : ∀ (M pre : List α), Rk.run (contP P (pre ++ M)) M [] = chk P pre.length M
  | [], _ => rfl
  | x :: M, pre => by
    rw [run_cons, contP_at, chk]
    have := contP_run P M (pre ++ [x])
    rw [List.append_assoc, List.singleton_append, List.length_append] at this
    rw [this]
    rfl
theorem contP_all {α : Type} (P : Nat → α → Bool) (L : List α) : Rk.run (contP P L) L [] = chk P 0 L := contP_run P L []
def partOk (i : Nat) (p : List UInt8) : Bool := decide (i < 6) && plainL p
theorem chk_parts : ∀ (L : List (List UInt8)) (i : Nat), i ≤ 6 → chk partOk i L = (decide (i + L.length ≤ 6) && L.all plainL)
  | [], i, h => by
    rw [chk, List.length_nil, Nat.add_zero, decide_eq_true h]; rfl
  | x :: L, i, h => by
    rw [chk, List.all_cons, List.length_cons, show partOk i x = (decide (i < 6) && plainL x) from rfl]
    by_cases h6 : i < 6
    · rw [chk_parts L (i + 1) (by omega), decide_eq_true h6, Bool.true_and, show i + 1 + L.length = i + (L.length + 1) by omega]
      cases plainL x <;> cases decide (i + (L.length + 1) ≤ 6) <;> cases L.all plainL <;> rfl
    · rw [decide_eq_false h6, decide_eq_false (show ¬ i + (L.length + 1) ≤ 6 by omega)]
      rfl
theorem chk_ch (a : List UInt8) : chk partOk 0 (spl 44 a) = chB a := by
  rw [chk_parts _ 0 (by omega), Nat.zero_add]; rfl
theorem plainL_at {l : List UInt8} {k : Nat} (hk : k < l.length) (h : plainC l[k] = false) : plainL l = false := by
  unfold plainL
  rw [List.all_eq_false.2 ⟨l[k], List.getElem_mem hk, by simp [h]⟩, Bool.and_false]
theorem plainL_take {l : List UInt8} (h0 : l ≠ []) (h : (l.take l.length).all plainC = true) : plainL l = true := by
  unfold plainL
  rw [List.take_length] at h
  rw [h, Bool.and_true]
  cases l with
  | nil => exact absurd rfl h0
  | cons _ _ => rfl
/-! ### The program -/
theorem valB_one (c : UInt8) : Tg.valB [c] = Tg.valC c := by simp [Tg.valB]
theorem contains_any (c : UInt8) (w : World) :
    Calls Tryz.prog 101 #[.string ⟨#[42, 63, 91, 93]⟩, .string ⟨#[c]⟩] w fun e w' => e = .returned (.bool (([42, 63, 91, 93] : List UInt8).contains c)) ∧ w = w' := by
  have h := Tryz.strings_Contains_one ⟨#[42, 63, 91, 93]⟩ c w
  rw [← Lib.contains_iff_indexByte] at h
  exact h.mono fun e w' h => ⟨h.1, h.2.symm⟩
set_option maxHeartbeats 1000000 in
theorem plain_any (c : UInt8) (w : World) :
    Calls Tryz.prog 156 #[.string ⟨#[c]⟩] w fun e w' => e = .returned (.bool (plainC c)) ∧ ∃ q, w' = w.drewN q := by
  have HV := fun w1 => Lib.hid (Y2.value_any ⟨#[c]⟩ w1 (small_max (l := [c]) (by simp)))
  have HC := fun w1 => Lib.hid (contains_any c w1)
  have HN : Hid (plainC c = (Tg.valB [c] && !([42, 63, 91, 93] : List UInt8).contains c)) := by show _ = _; rw [valB_one]; rfl
  have HV' : ∀ w1, Hid (Calls Tryz.prog 176 #[.string ⟨#[c]⟩] w1 fun e w' => e = .returned (.bool (Tg.valB [c])) ∧ ∃ q, w' = w1.drewN q) := HV
  clear HV
  generalize Tg.valB [c] = b0 at HV' HN
  generalize ([42, 63, 91, 93] : List UInt8).contains c = b1 at HC HN
  generalize plainC c = r at HN ⊢
  obtain rfl := HN.out
  cases b0
  · go_enter Tryz.func156, Tryz.ntmps156
    go_wp2_with (go_at_call 176; refine (HV' _).out.mono ?_; rintro e w1 ⟨rfl, q, rfl⟩)
    go_ret
    exact ⟨rfl, q, rfl⟩
  · go_enter Tryz.func156, Tryz.ntmps156
    go_wp2_with (first | (go_at_call 176; refine (HV' _).out.mono ?_; rintro e w1 ⟨rfl, q, rfl⟩) | (go_at_call 101; refine (HC _).out.mono ?_; rintro e w2 ⟨rfl, rfl⟩))
    go_ret
    exact ⟨rfl, q, rfl⟩
theorem results_choice (W : World) (b : Nat) (a : Array Value) (v : Bool) (h : Blk W b 4 #[.bool v]) (h2 : a[2]? = some (.pointer (some ⟨b, 0, none⟩))) :
    (results Tryz.f157 a).run Tryz.prog W = .ok (.bool v) W := by
  have c0 := (h.cl 0 _ rfl).1
  simp [results, Tryz.results157, go_sem, h2, c0]
/-- of the parts L, rest is left -/
def ChI (w : World) (rb cb : Nat) (L rest : List (List UInt8)) (V : World) : Prop :=
  ∃ pre, L = pre ++ rest ∧ pre.length ≤ 6 ∧ Blk V rb 4 #[.bool false] ∧ Blk V cb 3 #[.int .i64 (pre.length : Int)] ∧ Below w.heap.size w V
theorem chI_only {w V V' : World} {rb cb bx : Nat} (ho : Only [rb, cb] V V') {v1 v2 : Value} (h1 : Blk V rb 4 #[v1]) (h2 : Blk V cb 3 #[v2]) (hr : rb < bx) (hc : cb < bx) (hw : w.heap.size ≤ rb) (hw2 : w.heap.size ≤ cb) (hb : Below w.heap.size w V) :
    KeepsOthers V V' ∧ Keep3 bx V V' ∧ Below w.heap.size w V' :=
  ⟨ho.others (fun k hk => by
      rcases List.mem_cons.1 hk with rfl | hk
      · exact ⟨_, _, h1⟩
      · rw [List.mem_singleton.1 hk]; exact ⟨_, _, h2⟩),
    fun i _ t cs hb => ho.blk hb (fun hk => by
      rcases List.mem_cons.1 hk with e | hk
      · omega
      · have := List.mem_singleton.1 hk; omega),
    hb.trans (ho.drop hb.size (fun k hk => by
      rcases List.mem_cons.1 hk with rfl | hk
      · exact hw
      · rw [List.mem_singleton.1 hk]; exact hw2))⟩
set_option maxRecDepth 100000 in
set_option maxHeartbeats 8000000 in
theorem choice_any (a : List UInt8) (w : World) (ha : a.length ≤ 100000) :
    Calls Tryz.prog 157 #[.string (B a)] w fun e w' => e = .returned (.bool (chB a)) ∧ Below w.heap.size w w' := by
  have HCB := Lib.hid (chk_ch a)
  obtain ⟨X, hX⟩ : ∃ X, (w.alloc (.cells #[.bool false] 4)).alloc (.cells #[.int .i64 0] 3) = X := ⟨_, rfl⟩
  obtain ⟨rb, hrb⟩ : ∃ rb, w.heap.size = rb := ⟨_, rfl⟩
  obtain ⟨cb, hcb⟩ : ∃ cb, rb + 1 = cb := ⟨_, rfl⟩
  obtain ⟨bx, hbx⟩ : ∃ bx, X.heap.size = bx := ⟨_, rfl⟩
  have hbxe : bx = cb + 1 := by rw [← hbx, ← hX]; simp; omega
  have hbX : Below w.heap.size w X := by rw [← hX]; exact ((Below.refl _ w).alloc (Nat.le_refl _) _).alloc (by simp) _
  have k1 : Blk X rb 4 #[.bool false] := by rw [← hX, ← hrb]; exact (Blk.new w _ _).alloc _
  have k2 : Blk X cb 3 #[.int .i64 0] := by
    have := Blk.new (w.alloc (.cells #[.bool false] 4)) 3 #[.int .i64 0]
    rw [World.size_alloc, hrb, hcb, hX] at this
    exact this
  have HSQ := Lib.hid (splitSeq_pub a 44 X ha)
  have HPS : Hid (∀ p ∈ spl 44 a, p.length ≤ 100000) := fun p hp => by have := spl_le hp; omega
  obtain ⟨sb, hsb⟩ : ∃ sb, B a = sb := ⟨_, rfl⟩
  rw [hsb, hbx] at HSQ
  rw [hsb]
  obtain ⟨r, hr⟩ : ∃ r, chB a = r := ⟨_, rfl⟩
  rw [hr] at HCB ⊢
  obtain ⟨L, hL⟩ : ∃ L, spl 44 a = L := ⟨_, rfl⟩
  rw [hL] at HSQ HPS HCB
  have HRUN : Hid (Rk.run (contP partOk L) L [] = r) := by show _ = _; rw [contP_all]; exact HCB.out
  have HXE := Lib.hid hX
  have HRB := Lib.hid hrb
  have HCBE := Lib.hid hcb
  have HX0 : Hid (Below w.heap.size w X ∧ Blk X rb 4 #[.bool false] ∧ Blk X cb 3 #[.int .i64 0]) := ⟨hbX, k1, k2⟩
  have HBX : Hid (rb < bx ∧ cb < bx ∧ w.heap.size ≤ rb ∧ w.heap.size ≤ cb ∧ rb ≠ cb ∧ X.heap.size = bx) := ⟨by omega, by omega, by omega, by omega, by omega, hbx⟩
  clear hX hrb hcb hbX k1 k2 hsb hL hr ha hbxe HCB hbx
  refine (callsIn_wide (n := 3)).1 ?_
  refine callsIn_of_wp_marks Tryz.func157 rfl trivial ?_ rfl
  simp only [Tryz.ntmps157, List.size_toArray, List.length_cons, List.length_nil, Nat.reduceAdd, Nat.reduceSub, Array.replicate_succ, Array.replicate_zero, List.push_toArray, List.append_toArray, List.nil_append, List.cons_append]
  gi_wp2_with fail
  rw [HXE.out, HRB.out, HCBE.out]
  refine ⟨trivial, ?_⟩
  refine (callsIn_wide.2 HSQ.out).mono ?_
  rintro e w2 ⟨lbf, rfl, hseq, hb2, hz2, hb3⟩
  have hbl2 : X.heap.size ≤ X.heap.size := Nat.le_refl _
  have HST : Hid (ChI w rb cb L L w2) := ⟨[], rfl, by simp, HX0.out.2.1.below hb2 (by have := HBX.out; omega), HX0.out.2.2.below hb2 (by have := HBX.out; omega), below_step HX0.out.1 (Nat.le_refl _) (by rw [HBX.out.2.2.2.2.2]; exact hb2)⟩
  have hz : bx < w2.heap.size := by omega
  clear hb2 hz2 hb3 hbl2 HX0 HSQ
  gi_wp2_with fail
  refine wpIn_rangeB (by decide) (gf := 188) (lbf := lbf) rfl splitSeq1_enters hseq hz (fun h k => Keep3.trans h k) (fun W k o o' hk hc _ i _ t cs h => (Free.put o' hk hc).blk h) (Below.refl _ _) (fun _ => rfl)
    (contP partOk L) (ChI w rb cb L) (fun c V => c = .ret ∧ Blk V rb 4 #[.bool false] ∧ Below w.heap.size w V) ?own ?box ?ownx HST.out ?a1 ?assign ?body ?done ?stop
  case own =>
    rintro rest A A' row ⟨pre, e1, e2, e3, e4, e5⟩ hg hr
    have hf : Free A A' := ⟨row, hg, fun r e => (hr r e).2⟩
    exact ⟨pre, e1, e2, hf.blk e3, hf.blk e4, below_free e5 (Nat.le_refl _) hg (fun r e => by have := (hr r e).1; have := HBX.out; omega)⟩
  case box =>
    rintro rest A A' ⟨pre, e1, e2, e3, e4, e5⟩ ho
    have hb := HBX.out
    exact ⟨pre, e1, e2, ho.blk e3 (by simp; omega), ho.blk e4 (by simp; omega), e5.trans (ho.drop e5.size (by simp; omega))⟩
  case ownx =>
    rintro c A A' row ⟨e1, e3, e5⟩ hg hr
    have hf : Free A A' := ⟨row, hg, fun r e => (hr r e).2⟩
    exact ⟨e1, hf.blk e3, below_free e5 (Nat.le_refl _) hg (fun r e => by have := (hr r e).1; have := HBX.out; omega)⟩
  case assign =>
    intro lp x V K hK
    gi_wp2
    exact hK
  case body =>
    rintro lp x rest V ⟨pre, e1, e2, e3, e4, e5⟩
    have hxl : x.length ≤ 100000 := HPS.out x (by rw [e1]; simp)
    have hc : contP partOk L rest = (decide (pre.length < 6) && plainL x) := by rw [e1]; exact contP_at _ _ _ _
    have HE1 : Hid (L = (pre ++ [x]) ++ rest) := by show _ = _; rw [e1]; simp
    obtain ⟨n, hn⟩ : ∃ n, pre.length = n := ⟨_, rfl⟩
    have HNL : Hid ((pre ++ [x]).length = n + 1) := by show _ = _; rw [List.length_append, hn]; rfl
    rw [hn] at e2 e4 hc
    have w1' : wrap64 ((n : Int) + 1) = (n : Int) + 1 := IntWalk.wrap64_in _ ⟨by omega, by omega⟩
    have c2 : V.cell? ⟨cb, 0, none⟩ = some (.int .i64 (n : Int)) := (e4.cl 0 _ rfl).1
    have c2f : V.frozen? ⟨cb, 0, none⟩ = false := (e4.cl 0 _ rfl).2
    obtain ⟨V1, hV1⟩ : ∃ V1, V.setCell ⟨cb, 0, none⟩ (.int .i64 ((n : Int) + 1)) = V1 := ⟨_, rfl⟩
    have f1 : Blk V1 rb 4 #[.bool false] := by rw [← hV1]; exact e3.other (p := ⟨cb, 0, none⟩) (by have := HBX.out; show cb ≠ rb; omega) _
    have f2 : Blk V1 cb 3 #[.int .i64 ((n : Int) + 1)] := by rw [← hV1]; exact e4.set 0 _
    have f3 : Only [rb, cb] V V1 := by rw [← hV1]; exact Only.set _ _ _ _ (by simp)
    have c3 : V1.cell? ⟨cb, 0, none⟩ = some (.int .i64 ((n : Int) + 1)) := (f2.cl 0 _ rfl).1
    have HF := Lib.hid (And.intro f1 (And.intro f2 f3))
    have HE3 := Lib.hid e3
    have HE4 := Lib.hid e4
    have HE5 := Lib.hid e5
    -- where it leaves
    have HLEAVE : Hid (∀ q, KeepsOthers V ((V1.drewN q).setCell ⟨rb, 0, none⟩ (.bool false)) ∧ Keep3 bx V ((V1.drewN q).setCell ⟨rb, 0, none⟩ (.bool false)) ∧ Blk ((V1.drewN q).setCell ⟨rb, 0, none⟩ (.bool false)) rb 4 #[.bool false] ∧ Below w.heap.size w ((V1.drewN q).setCell ⟨rb, 0, none⟩ (.bool false))) := fun q => by
      have ho : Only [rb, cb] V ((V1.drewN q).setCell ⟨rb, 0, none⟩ (.bool false)) := (f3.trans (Only.below (below_q V1 q) _)).trans (Only.set _ _ _ _ (by simp))
      have hb := HBX.out
      obtain ⟨h1, h2, h3⟩ := chI_only ho e3 e4 hb.1 hb.2.1 hb.2.2.1 hb.2.2.2.1 e5
      exact ⟨h1, h2, Blk.set (show Blk (V1.drewN q) rb 4 _ from f1) 0 _, h3⟩
    have HF1 : Hid (∀ q, (V1.drewN q).cell? ⟨rb, 0, none⟩ = some (.bool false) ∧ (V1.drewN q).frozen? ⟨rb, 0, none⟩ = false) := fun q => f1.cl 0 _ rfl
    obtain ⟨xb, hxb⟩ : ∃ xb, B x = xb := ⟨_, rfl⟩
    have hq2 : xb.toList.isEmpty = x.isEmpty := by rw [← hxb, Lib.toList_data]
    have hq1 : (xb.toList == []) = x.isEmpty := by rw [← hq2]; cases xb.toList <;> rfl
    have HXZ : Hid (xb.size = x.length) := by show _ = _; rw [← hxb, B_size]
    have HEX : Hid (∀ (k : Nat) (hk : k < x.length), xb.extract k (k + 1) = ⟨#[x[k]]⟩) := fun k hk => by
      rw [← hxb, Lib.extract_eq]
      have : ((B x).data.toList.drop k).take (k + 1 - k) = [x[k]] := by
        show (x.drop k).take (k + 1 - k) = _
        rw [List.drop_eq_getElem_cons hk, show k + 1 - k = 1 by omega]
        rfl
      rw [this]
    have HXB := Lib.hid hxb
    clear e1 e3 e4 e5 f1 f2 f3 hn
    by_cases h6 : n < 6
    · by_cases hx0 : x = []
      · subst hx0
        have hcf : contP partOk L rest = false := by rw [hc, show plainL [] = false from rfl, Bool.and_false]
        rw [hcf]
        have HL0 := Lib.hid (HLEAVE.out 0)
        have g1 : V1.cell? ⟨rb, 0, none⟩ = some (.bool false) := (HF1.out 0).1
        have g2 : V1.frozen? ⟨rb, 0, none⟩ = false := (HF1.out 0).2
        have i6 : ¬ (6 : Int) < (n : Int) + 1 := by omega
        simp only [List.isEmpty_nil] at hq1 hq2
        show Code.wpIn _ _ _ _ _ { tmps := #[_, _, _, _, .string (B []), _, _, _, _, _, _, _, _, _, _, _, _, _, _, _, _, _, _, _, _, _, _, _, _, _], defers := _ } _
        rw [HXB.out]
        clear hc hcf hxl HXZ HEX HLEAVE HF1 HXB
        gi_wp2
        exact ⟨HL0.out.1, HL0.out.2.1, rfl, rfl, HL0.out.2.2.1, HL0.out.2.2.2⟩
      · have hxe : x.isEmpty = false := by cases x with | nil => exact absurd rfl hx0 | cons _ _ => rfl
        rw [hxe] at hq1 hq2
        have i6 : ¬ (6 : Int) < (n : Int) + 1 := by omega
        have HCT : Hid (contP partOk L rest = plainL x) := by show _ = _; rw [hc, decide_eq_true h6, Bool.true_and]
        have HX0 := Lib.hid hx0
        obtain ⟨m, hm⟩ : ∃ m, x.length = m := ⟨_, rfl⟩
        have HXM := Lib.hid hm
        have hxz : (xb.size : Int) = (m : Int) := by have := HXZ.out; omega
        have HXS : Hid (xb.size = m) := HXZ.out.trans hm
        have hmb : m ≤ 100000 := by omega
        -- where it goes on
        have HON : Hid (∀ q, plainL x = true → KeepsOthers V (V1.drewN q) ∧ Keep3 bx V (V1.drewN q) ∧ ChI w rb cb L rest (V1.drewN q)) := fun q _ => by
          obtain ⟨f1, f2, f3⟩ := HF.out
          have ho : Only [rb, cb] V (V1.drewN q) := f3.trans (Only.below (below_q V1 q) _)
          have hb := HBX.out
          obtain ⟨h1, h2, h3⟩ := chI_only ho HE3.out HE4.out hb.1 hb.2.1 hb.2.2.1 hb.2.2.2.1 HE5.out
          refine ⟨h1, h2, pre ++ [x], HE1.out, by rw [HNL.out]; omega, f1, ?_, h3⟩
          rw [HNL.out]
          exact f2
        clear hc hxl hxe HF hm hx0
        show Code.wpIn _ _ _ _ _ { tmps := #[_, _, _, _, .string (B x), _, _, _, _, _, _, _, _, _, _, _, _, _, _, _, _, _, _, _, _, _, _, _, _, _], defers := _ } _
        rw [HXB.out]
        gi_wp2
        gi_loopw [19] (fun i wr => ∃ k q : Nat, k ≤ m ∧ i = .int .i64 (k : Int) ∧ wr = V1.drewN q ∧ Hid ((x.take k).all plainC = true)) (fun i _ => m - (intOf i).toNat)
        case atStart => exact ⟨0, 0, Nat.zero_le _, rfl, rfl, rfl⟩
        case round =>
          clear hV1
          obtain ⟨k, q, hk, rfl, rfl, HA⟩ := hrel
          by_cases hlt : k < m
          · have hkx : k < x.length := by rw [HXM.out]; exact hlt
            have hx := HEX.out k hkx
            have HPC := Lib.hid (plain_any x[k] (V1.drewN q))
            have HTK : Hid (∀ h : plainC x[k] = true, (x.take (k + 1)).all plainC = true) := fun h => by
              rw [List.take_succ_eq_append_getElem hkx, List.all_append, HA.out]; simp [h]
            have HPF : Hid (∀ h : plainC x[k] = false, plainL x = false) := fun h => plainL_at hkx h
            obtain ⟨c, hcx⟩ : ∃ c, x[k] = c := ⟨_, rfl⟩
            rw [hcx] at hx HPC HTK HPF
            have w2' : wrap64 ((k : Int) + 1) = (k : Int) + 1 := IntWalk.wrap64_in _ ⟨by omega, by omega⟩
            have ik : (k : Int) + 1 ≤ (xb.size : Int) := by omega
            clear hcx HA
            obtain ⟨pc, hpc⟩ : ∃ pc, plainC c = pc := ⟨_, rfl⟩
            rw [hpc] at HPC HTK HPF
            cases pc with
            | true =>
              gi_wp2_with (first | (refine ⟨trivial, ?_⟩; gi_at_call 156; refine (callsIn_wide.2 HPC.out).mono ?_; rintro e w3 ⟨rfl, q', rfl⟩))
              go_roundw
              case rel => exact ⟨k + 1, q + q', hlt, by go_num, rfl, HTK.out trivial⟩
              case measure => simp [intOf]; omega
            | false =>
              have HCF : Hid (contP partOk L rest = false) := by show _ = _; rw [HCT.out]; exact HPF.out rfl
              gi_wp2_with fail
              refine ⟨trivial, ?_⟩
              refine (callsIn_wide.2 HPC.out).mono ?_
              rintro e w3 ⟨rfl, q', hw3⟩
              rw [World.drewN_drewN] at hw3
              subst hw3
              have HL0 := Lib.hid (HLEAVE.out (q + q'))
              have g1 := (HF1.out (q + q')).1
              have g2 := (HF1.out (q + q')).2
              gi_wp2
              exact ⟨HL0.out.1, HL0.out.2.1, HCF.out, rfl, HL0.out.2.2.1, HL0.out.2.2.2⟩
          · obtain rfl : k = m := by omega
            have hpl : plainL x = true := plainL_take HX0.out (by rw [HXM.out]; exact HA.out)
            have HFIN := Lib.hid (HON.out q hpl)
            have HCF : Hid (contP partOk L rest = true) := HCT.out.trans hpl
            clear hpl
            gi_wp2
            exact ⟨HFIN.out.1, HFIN.out.2.1, HCF.out, HFIN.out.2.2⟩
    · have hcf : contP partOk L rest = false := by rw [hc, decide_eq_false h6, Bool.false_and]
      rw [hcf]
      have HL0 := Lib.hid (HLEAVE.out 0)
      have g1 : V1.cell? ⟨rb, 0, none⟩ = some (.bool false) := (HF1.out 0).1
      have g2 : V1.frozen? ⟨rb, 0, none⟩ = false := (HF1.out 0).2
      have i6 : (6 : Int) < (n : Int) + 1 := by omega
      clear hc hcf hxl HXZ HEX HLEAVE HF1 HXB
      gi_wp2
      exact ⟨HL0.out.1, HL0.out.2.1, rfl, rfl, HL0.out.2.2.1, HL0.out.2.2.2⟩
  case done =>
    rintro D V hD hrun ⟨pre, e1, e2, e3, e4, e5⟩ hK
    have HR : Hid (r = true) := HRUN.out.symm.trans hrun
    have HM : Hid (Marks w.heap.size [D] V) := (Marks.nil _ _).cons (by have := HBX.out; omega) hK (by simp)
    have c1 : V.cell? ⟨rb, 0, none⟩ = some (.bool false) := (e3.cl 0 _ rfl).1
    have c1f := (e3.cl 0 _ rfl).2
    have HV : Hid (Blk (V.setCell ⟨rb, 0, none⟩ (.bool true)) rb 4 #[.bool true] ∧ Below w.heap.size w (V.setCell ⟨rb, 0, none⟩ (.bool true)) ∧ Marks w.heap.size [D] (V.setCell ⟨rb, 0, none⟩ (.bool true))) := ⟨e3.set 0 _, e5.setCell (p := ⟨rb, 0, none⟩) HBX.out.2.2.1 _, HM.out.set e3 0 _⟩
    clear e1 e2 e3 e4 e5 hK hrun
    gi_wp2
    exact leaves_marks [D] _ HV.out.2.2 fun W' hs => ⟨_, results_choice W' rb _ true (hs.2 _ _ _ HV.out.1) rfl, by rw [HR.out], HV.out.2.1.trans hs.1⟩
  case stop =>
    rintro D c V hD hrun ⟨rfl, e3, e5⟩ hK
    have HR : Hid (r = false) := HRUN.out.symm.trans hrun
    have HM : Hid (Marks w.heap.size [D] V) := (Marks.nil _ _).cons (by have := HBX.out; omega) hK (by simp)
    have HE3 := Lib.hid e3
    have HE5 := Lib.hid e5
    clear e3 e5 hK hrun
    gi_wp2
    exact leaves_marks [D] _ HM.out fun W' hs => ⟨_, results_choice W' rb _ false (hs.2 _ _ _ HE3.out) rfl, by rw [HR.out], HE5.out.trans hs.1⟩
end Gb
end Go.Proofs.YtiahelekgjdjlaaGreatDoor
namespace Go.Proofs.YtiahelekgjdjlaaGreatDoor
open Go.RowKit Go.Shelf
open Dp
attribute [local go_sem] Oper.semAt_some
namespace Gb
theorem cut_any (l : List UInt8) (c : UInt8) (w : World) (hE : EnvC w) (hl : l.length ≤ 100000) :
    Calls Tryz.prog 87 #[.string (B l), .string ⟨#[c]⟩] w fun e w' => e = .returned (.tuple #[.string (B (Lib.cut l [c]).1), .string (B (Lib.cut l [c]).2.1), .bool (Lib.cut l [c]).2.2]) ∧ ∃ n, w' = w.drewN n := by
  obtain ⟨m, hm⟩ := hE
  exact Tryz.strings_Cut (B l) ⟨#[c]⟩ m w (by rw [B_size]; omega) hm
theorem B_add (a b : List UInt8) : B a ++ B b = B (a ++ b) := by
  apply ByteArray.ext
  apply Array.toList_inj.1
  simp
theorem EnvC.q {w : World} (h : EnvC w) (q : Nat) : EnvC (w.drewN q) := h.below (below_q w q)
set_option maxRecDepth 100000 in
set_option maxHeartbeats 4000000 in
theorem first_any (l : List UInt8) (w : World) (hE : EnvC w) (h0 : l ≠ []) (hl : l.length ≤ 100000) :
    Calls Tryz.prog 136 #[.string (B l)] w fun e w' => e = .returned (strV (first l)) ∧ Below w.heap.size w w' := by
  cases l with
  | nil => exact absurd rfl h0
  | cons c r =>
    have hr : r.length ≤ 100000 := by simp at hl; omega
    have HFI := Lib.hid (first_cons c r)
    have x1 : (B (c :: r)).extract 0 1 = ⟨#[c]⟩ := by rw [Lib.extract_eq]; rfl
    have x2 : (B (c :: r)).extract 1 (B (c :: r)).size = B r := by
      rw [Lib.extract_eq, B_size]
      have : ((B (c :: r)).data.toList.drop 1).take ((c :: r).length - 1) = r := by show r.take ((c :: r).length - 1) = r; exact List.take_of_length_le (by simp)
      rw [this]
    have HPL := fun w => Lib.hid (plain_any c w)
    have HCU := fun w hE => Lib.hid (cut_any r 125 w hE hr)
    have hal : (Lib.cut r [125]).1.length ≤ r.length := (cut_len 125 r).1
    have HCH := fun w => Lib.hid (choice_any (Lib.cut r [125]).1 w (by omega))
    have hsz : (B (c :: r)).size = r.length + 1 := by rw [B_size]; rfl
    have q1 := (eq_lit [c] [42]).trans (eq_one c 42)
    have q2 := (eq_lit [c] [63]).trans (eq_one c 63)
    have q3 := (eq_lit [c] [123]).trans (eq_one c 123)
    obtain ⟨s, hs⟩ : ∃ s, B (c :: r) = s := ⟨_, rfl⟩
    obtain ⟨hb, hhb⟩ : ∃ hb : ByteArray, B [c] = hb := ⟨_, rfl⟩
    have hhb' : (⟨#[c]⟩ : ByteArray) = hb := hhb
    have HHB := Lib.hid hhb
    rw [hs, hhb'] at x1
    rw [hs] at x2 hsz ⊢
    rw [hhb] at q1 q2 q3
    simp only [hhb'] at HPL
    obtain ⟨rb, hrb⟩ : ∃ rb, B r = rb := ⟨_, rfl⟩
    rw [hrb] at x2
    simp only [hrb] at HCU
    generalize Lib.cut r [125] = cc at HFI HCU hal HCH
    obtain ⟨a, a2, fl⟩ := cc
    simp only at HFI HCU hal HCH
    have hE1 := Lib.hid hE
    have i1 : (1 : Int) ≤ (s.size : Int) := by omega
    have hab : (B a).size ≤ 100000 := by rw [B_size]; omega
    have y1 : (⟨#[123]⟩ : ByteArray) ++ B a = B (123 :: a) := B_add [123] a
    have y2 : B (123 :: a) ++ (⟨#[125]⟩ : ByteArray) = B (123 :: a ++ [125]) := B_add (123 :: a) [125]
    have hab2 : (B (123 :: a)).size ≤ 100001 := by rw [B_size]; simp; omega
    obtain ⟨ab, hab'⟩ : ∃ ab, B a = ab := ⟨_, rfl⟩
    obtain ⟨ab1, hab1⟩ : ∃ ab, B (123 :: a) = ab := ⟨_, rfl⟩
    obtain ⟨ab2, hab2'⟩ : ∃ ab, B (123 :: a ++ [125]) = ab := ⟨_, rfl⟩
    have HAB2 := Lib.hid hab2'
    simp only [hab'] at HCU HCH
    rw [hab'] at y1 hab
    rw [hab1] at y1 y2 hab2
    rw [hab2'] at y2
    clear hhb hhb' hs hrb hl h0 hE hab' hab1 hab2' hsz hal hr
    obtain ⟨b1, hb1⟩ : ∃ b1, (c == 42) = b1 := ⟨_, rfl⟩
    obtain ⟨b2, hb2⟩ : ∃ b1, (c == 63) = b1 := ⟨_, rfl⟩
    obtain ⟨b3, hb3⟩ : ∃ b1, (c == 123) = b1 := ⟨_, rfl⟩
    obtain ⟨pc, hpc⟩ : ∃ b1, plainC c = b1 := ⟨_, rfl⟩
    obtain ⟨ch, hch⟩ : ∃ b1, chB a = b1 := ⟨_, rfl⟩
    rw [hb1, hb2, hb3, hpc, hch] at HFI
    rw [hb1] at q1
    rw [hb2] at q2
    rw [hb3] at q3
    simp only [hpc] at HPL
    simp only [hch] at HCH
    obtain ⟨fr, hfr⟩ : ∃ fr, first (c :: r) = fr := ⟨_, rfl⟩
    rw [hfr] at HFI ⊢
    clear hb1 hb2 hb3 hpc hch hfr
    cases b1 with
    | true =>
      obtain rfl := HFI.out
      go_enter Tryz.func136, Tryz.ntmps136
      go_wp2
      go_ret
      exact ⟨by rw [← HHB.out]; rfl, Below.refl _ _⟩
    | false =>
      cases b2 with
      | true =>
        obtain rfl := HFI.out
        go_enter Tryz.func136, Tryz.ntmps136
        go_wp2
        go_ret
        exact ⟨by rw [← HHB.out]; rfl, Below.refl _ _⟩
      | false =>
        cases pc with
        | true =>
          obtain rfl := HFI.out
          go_enter Tryz.func136, Tryz.ntmps136
          go_wp2_with fail
          refine (HPL _).out.mono ?_
          rintro e w1 ⟨rfl, q, rfl⟩
          go_wp2
          go_ret
          exact ⟨by rw [← HHB.out]; rfl, below_q w q⟩
        | false =>
          go_enter Tryz.func136, Tryz.ntmps136
          go_wp2_with fail
          refine (HPL _).out.mono ?_
          rintro e w1 ⟨rfl, q, rfl⟩
          go_wp2_with fail
          refine (HCU _ (hE1.out.q q)).out.mono ?_
          rintro e w2 ⟨rfl, q', hw2⟩
          have HB2 : Hid (Below w.heap.size w w2) := by show Below _ _ _; rw [hw2]; exact below_drewN (below_q w q) q'
          clear hw2
          cases b3 with
          | false =>
            obtain rfl := HFI.out
            go_wp2
            go_ret
            exact ⟨rfl, HB2.out⟩
          | true =>
            cases fl with
            | false =>
              obtain rfl := HFI.out
              go_wp2
              go_ret
              exact ⟨rfl, HB2.out⟩
            | true =>
              cases ch with
              | false =>
                obtain rfl := HFI.out
                go_wp2_with fail
                refine (HCH _).out.mono ?_
                rintro e w3 ⟨rfl, hb3⟩
                have HB3 := Lib.hid (below_step HB2.out (Nat.le_refl _) hb3)
                clear hb3
                go_wp2
                go_ret
                exact ⟨rfl, HB3.out⟩
              | true =>
                obtain rfl := HFI.out
                go_wp2_with fail
                refine (HCH _).out.mono ?_
                rintro e w3 ⟨rfl, hb3⟩
                have HB3 := Lib.hid (below_step HB2.out (Nat.le_refl _) hb3)
                clear hb3
                go_wp2
                go_ret
                exact ⟨by rw [← HAB2.out]; rfl, HB3.out⟩
end Gb
end Go.Proofs.YtiahelekgjdjlaaGreatDoor
namespace Go.Proofs.YtiahelekgjdjlaaGreatDoor
open Go.RowKit Go.Shelf
open Dp
attribute [local go_sem] Oper.semAt_some
namespace Gb
def encS (x : List UInt8) : Array Value := #[.string (B x)]
/-- what MaxLen holds stays an int -/
def KpE (A B : World) : Prop := EnvC A → EnvC B
theorem KpE.refl (A : World) : KpE A A := id
theorem KpE.trans {A B C : World} (h : KpE A B) (k : KpE B C) : KpE A C := fun x => k (h x)
theorem KpE.below {A B : World} (h : Below A.heap.size A B) : KpE A B := fun x => x.below h
theorem env_block {A B : World} (hA : EnvC A) (h : B.heap[2]? = A.heap[2]?) : EnvC B := by
  obtain ⟨m, hm⟩ := hA
  refine ⟨m, ?_⟩
  unfold World.cell? at hm ⊢
  simp only at hm ⊢
  rw [h]
  exact hm
theorem env_cells {A : World} (hA : EnvC A) {o : Obj} (ho : A.heap[2]? = some o) : o.isCells = true := by
  obtain ⟨m, hm⟩ := hA
  unfold World.cell? at hm
  simp only at hm
  rw [ho] at hm
  cases o <;> first | rfl | (simp at hm)
theorem KpE.put {A : World} {k : Nat} {o : Obj} (o' : Obj) (hl : A.heap[k]? = some o) (ho : o.isCells = false) : KpE A (A.putObj k o') := fun hA => env_block hA (World.putObj_heap_other (fun e => by
  subst e
  rw [env_cells hA hl] at ho
  cases ho))
theorem KpE.set {A : World} {g : Nat} (hg : g ≠ 2) (i : Nat) (v : Value) : KpE A (A.setCell ⟨g, i, none⟩ v) := fun hA => env_block hA (heap_set hg)
theorem KpE.only {A B : World} {ks : List Nat} (h : Only ks A B) (hk : ∀ k ∈ ks, k ≠ 2) : KpE A B := fun hA => by
  obtain ⟨m, hm⟩ := id hA
  exact env_block hA (h.block _ (lt_of_cell hm) (fun hx => hk _ hx rfl))
abbrev RoundS (lp : Nat) (cont : List (List UInt8) → Bool) (J : List (List UInt8) → World → Prop) (Jx : World → Prop) (Kp : World → World → Prop) : Prop :=
  ∀ x rest W, J (x :: rest) W → YieldAt Fence.wide 0 Tryz.prog lp (encS x) W fun e W' => e = .returned (.bool (cont rest)) ∧ Rk.Res J Jx (cont rest) rest W' ∧ Kp W W'
def sizeV : Value → Nat
  | .string s => s.size
  | _ => 0
set_option maxRecDepth 100000 in
set_option maxHeartbeats 4000000 in
theorem pieces1_any (l : List UInt8) (hl : l.length ≤ 100000) (b lp : Nat) (cont : List (List UInt8) → Bool) (J : List (List UInt8) → World → Prop) (Jx : World → Prop) (hab : ∀ l A B, J l A → Below A.heap.size A B → J l B) (hY : RoundS lp cont J Jx KpE) (W : World) (hE : EnvC W) (hB : Blk W b 9 #[strV l]) (hJ : J (pcs l) W) :
    Calls Tryz.prog 135 #[.func (.yield lp) #[] #[], .pointer (some ⟨b, 0, none⟩)] W fun e W' => (∃ v, e = .returned v) ∧ Rk.Res J Jx (Rk.run cont (pcs l) []) [] W' ∧ KpE W W' := by
  obtain ⟨RR, hRR⟩ : ∃ RR, Rk.run cont (pcs l) [] = RR := ⟨_, rfl⟩
  have HST : Hid (l.length ≤ 100000 ∧ J (pcs l) W ∧ RR = Rk.run cont (pcs l) [] ∧ EnvC W) := ⟨hl, hJ, hRR.symm, hE⟩
  have c1 : W.cell? ⟨b, 0, none⟩ = some (.string (B l)) := (hB.cl 0 _ rfl).1
  rw [hRR]
  have HY := Lib.hid hY
  have HAB := Lib.hid hab
  clear hY hB hJ hRR hab hE
  refine (callsIn_wide (n := 3)).1 ?_
  refine callsIn_of_wp Tryz.func135 rfl trivial ?_ rfl
  simp only [Tryz.ntmps135, List.size_toArray, List.length_cons, List.length_nil, Nat.reduceAdd, Nat.reduceSub, Array.replicate_succ, Array.replicate_zero, List.push_toArray, List.append_toArray, List.nil_append, List.cons_append]
  gi_wp2
  gi_loopw [3] (fun v wr => ∃ r : List UInt8, v = .string (B r) ∧ Hid (r.length ≤ 100000 ∧ J (pcs r) wr ∧ RR = Rk.run cont (pcs r) [] ∧ EnvC wr)) (fun v _ => sizeV v)
  case atStart => exact ⟨l, rfl, HST⟩
  case round =>
    clear HST c1
    obtain ⟨r, rfl, HR⟩ := hrel
    by_cases h0 : r = []
    · subst h0
      have HFIN : Hid (Rk.Res J Jx RR [] wr ∧ KpE W wr) := by
        obtain ⟨_, h1, h2, h3⟩ := HR.out
        rw [pcs_nil] at h1 h2
        exact ⟨⟨fun _ => h1, fun h => by rw [h2] at h; cases h⟩, fun _ => h3⟩
      gi_wp2
      go_end0
      exact ⟨⟨_, rfl⟩, HFIN.out⟩
    · have HFI := Lib.hid (first_any r wr HR.out.2.2.2 h0 HR.out.1)
      have hrl := HR.out.1
      have HR0 := Lib.hid h0
      have hne : (B r).toList.isEmpty = false := by
        rw [Lib.toList_data]
        cases r with
        | nil => exact absurd rfl h0
        | cons _ _ => rfl
      have hsz : (B r).size = r.length := B_size r
      have HXX : Hid (∀ k, k ≤ r.length → (B r).extract k (B r).size = B (r.drop k)) := fun k _ => by
        rw [Lib.extract_eq, B_size, List.take_of_length_le]
        simp
      have HSB := Lib.hid hsz
      obtain ⟨s, hs⟩ : ∃ s, B r = s := ⟨_, rfl⟩
      rw [hs] at HFI hne HXX HSB ⊢
      clear h0 hs hsz
      by_cases hf : first r = []
      · have hJ := HR.out.2.1
        have hR2 := HR.out.2.2.1
        rw [pcs_bad HR0.out hf] at hJ hR2
        have HRR : Hid (RR = cont []) := by show _ = _; rw [hR2, run_cons]; simp [Rk.run]
        have HJ := Lib.hid hJ
        rw [hf] at HFI
        obtain ⟨tb, htb⟩ : ∃ tb, B [] = tb := ⟨_, rfl⟩
        have hte : tb.toList.isEmpty = true := by rw [← htb, Lib.toList_data]; rfl
        have hte2 : (tb.toList == []) = true := by rw [← htb, Lib.toList_data]; rfl
        have HFI' : Hid (Calls Tryz.prog 136 #[.string s] wr fun e w' => e = .returned (.string tb) ∧ Below wr.heap.size wr w') := by rw [← htb]; exact HFI.out
        have HTB := Lib.hid htb
        clear hJ hR2 hf HFI htb
        gi_wp2_with fail
        refine ⟨trivial, ?_⟩
        refine (callsIn_wide.2 HFI'.out).mono ?_
        rintro e w1 ⟨rfl, hb1⟩
        obtain ⟨fn, tmps, assign, body, hy, hRD⟩ := HY.out [] _ w1 (HAB.out _ _ _ HJ.out hb1)
        have HRD := Lib.hid hRD
        have HE1 := Lib.hid (HR.out.2.2.2.below hb1)
        obtain ⟨bb, hbb⟩ : ∃ bb, cont [] = bb := ⟨_, rfl⟩
        rw [hbb] at HRD HRR
        simp only [encS] at hy
        rw [HTB.out] at hy
        clear hbb hRD hb1
        gi_wp2
        refine (round_any HRD.out).mono ?_
        rintro e W3 ⟨rfl, R3, K3⟩
        have HFIN : Hid (Rk.Res J Jx RR [] W3 ∧ KpE W W3) := by
          refine ⟨?_, fun _ => K3 HE1.out⟩
          rw [HRR.out]
          exact R3
        clear R3 K3
        cases bb
        all_goals
          gi_wp2
          refine bodyPost_ret (results_none rfl _ _ _) rfl ?_
          exact ⟨⟨_, rfl⟩, HFIN.out⟩
      · obtain ⟨n, hn⟩ : ∃ n, (first r).length = n := ⟨_, rfl⟩
        have hn1 : 1 ≤ n := by rw [← hn]; exact first_pos hf
        have hn2 : n ≤ r.length := by rw [← hn]; exact (first_tok hf).2.1
        have hJ := HR.out.2.1
        have hR2 := HR.out.2.2.1
        rw [pcs_more hf, hn] at hJ hR2
        have HJ := Lib.hid hJ
        obtain ⟨rest, hrest⟩ : ∃ rest, pcs (r.drop n) = rest := ⟨_, rfl⟩
        rw [hrest] at HJ hR2
        have HREST := Lib.hid hrest
        have HRR : Hid (RR = (cont rest && Rk.run cont rest [])) := by show _ = _; rw [hR2, run_cons]
        obtain ⟨t, ht⟩ : ∃ t, first r = t := ⟨_, rfl⟩
        rw [ht] at HFI HJ hn hf
        have hx := HXX.out n hn2
        have ins : (n : Int) ≤ (s.size : Int) := by have := HSB.out; omega
        have HDR : Hid ((r.drop n).length + n = r.length) := by show _ = _; rw [List.length_drop]; omega
        obtain ⟨r2, hr2⟩ : ∃ r2, r.drop n = r2 := ⟨_, rfl⟩
        rw [hr2] at hx HDR HREST
        obtain ⟨s2, hs2⟩ : ∃ s2, B r2 = s2 := ⟨_, rfl⟩
        have HS2 : Hid (s2 = B r2 ∧ s2.size = r2.length) := ⟨hs2.symm, by rw [← hs2, B_size]⟩
        rw [hs2] at hx
        have htn : (B t).toList.isEmpty = false := by
          rw [Lib.toList_data]
          cases t with
          | nil => exact absurd rfl hf
          | cons _ _ => rfl
        have htn2 : ((B t).toList == []) = false := by
          rw [Lib.toList_data]
          cases t with
          | nil => exact absurd rfl hf
          | cons _ _ => rfl
        have hts : ((B t).size : Int) = (n : Int) := by rw [B_size, hn]
        obtain ⟨tb, htb⟩ : ∃ tb, B t = tb := ⟨_, rfl⟩
        have HTB := Lib.hid htb
        have HFI' : Hid (Calls Tryz.prog 136 #[.string s] wr fun e w' => e = .returned (.string tb) ∧ Below wr.heap.size wr w') := by rw [← htb]; exact HFI.out
        rw [htb] at htn htn2 hts
        clear hJ hR2 hf htb hs2 hr2 hn ht hrest HFI
        gi_wp2_with fail
        refine ⟨trivial, ?_⟩
        refine (callsIn_wide.2 HFI'.out).mono ?_
        rintro e w1 ⟨rfl, hb1⟩
        obtain ⟨fn, tmps, assign, body, hy, hRD⟩ := HY.out t _ w1 (HAB.out _ _ _ HJ.out hb1)
        have HRD := Lib.hid hRD
        have HE1 := Lib.hid (HR.out.2.2.2.below hb1)
        obtain ⟨bb, hbb⟩ : ∃ bb, cont rest = bb := ⟨_, rfl⟩
        rw [hbb] at HRD HRR
        simp only [encS] at hy
        rw [HTB.out] at hy
        clear hbb hRD hb1
        cases bb with
        | false =>
          gi_wp2
          refine (round_any HRD.out).mono ?_
          rintro e W3 ⟨rfl, R3, K3⟩
          have HFIN : Hid (Rk.Res J Jx RR [] W3 ∧ KpE W W3) := ⟨⟨(fun h => by rw [HRR.out] at h; cases h), fun _ => R3.2 rfl⟩, fun _ => K3 HE1.out⟩
          clear R3 K3
          gi_wp2
          refine bodyPost_ret (results_none rfl _ _ _) rfl ?_
          exact ⟨⟨_, rfl⟩, HFIN.out⟩
        | true =>
          gi_wp2
          refine (round_any HRD.out).mono ?_
          rintro e W3 ⟨rfl, R3, K3⟩
          have HNX : Hid (r2.length ≤ 100000 ∧ J (pcs r2) W3 ∧ RR = Rk.run cont (pcs r2) [] ∧ EnvC W3) := by
            refine ⟨by have := HDR.out; omega, ?_, ?_, K3 HE1.out⟩
            · rw [HREST.out]; exact R3.1 rfl
            · rw [HREST.out, HRR.out, Bool.true_and]
          clear R3 K3
          gi_wp2
          go_roundw
          case rel => exact ⟨r2, by rw [HS2.out.1], HNX⟩
          case measure =>
            show sizeV (.string s2) < sizeV (.string s)
            have h1 := HS2.out.2
            have h2 := HSB.out
            have h3 := HDR.out
            show s2.size < s.size
            omega
end Gb
end Go.Proofs.YtiahelekgjdjlaaGreatDoor
namespace Go.Proofs.YtiahelekgjdjlaaGreatDoor
open Go.RowKit Go.Shelf
open Dp
attribute [local go_sem] Oper.semAt_some
namespace Gb
/-! ### Plain -/
theorem chk_each {α : Type} (p : α → Bool) : ∀ (L : List α) (i : Nat), chk (fun _ x => p x) i L = L.all p
  | [], _ => rfl
  | x :: L, i => by rw [chk, chk_each p L (i + 1), List.all_cons]
theorem containsAny_any (cs : List UInt8) : ∀ l : List UInt8, Lib.containsAny l cs = l.any (cs.contains ·)
  | [] => rfl
  | b :: l => by
    have ih := containsAny_any cs l
    have hge := Lib.indexAny_ge cs l
    unfold Lib.containsAny at ih ⊢
    rw [List.any_cons, ← ih, Lib.indexAny]
    cases hb : cs.contains b with
    | true => simp
    | false =>
      rw [if_neg (by decide), Bool.false_or]
      by_cases hn : Lib.indexAny l cs = -1
      · rw [hn]; rfl
      · rw [if_neg (by simpa using hn)]
        rw [Bool.eq_iff_iff]
        simp only [decide_eq_true_eq]
        omega
theorem rtok_flat : ∀ {l : List UInt8}, (123 : UInt8) ∉ l → rtok l = l.map fun c => [c]
  | [], _ => rfl
  | c :: r, h => by
    have hc : (c == 123) = false := beq_eq_false_iff_ne.2 (fun e => h (by simp [e]))
    have e1 : rfirst (c :: r) = [c] := by rw [rfirst_cons, hc, Bool.false_and, if_neg (by decide)]
    rw [rtok_more (by simp), e1]
    show [c] :: rtok r = _
    rw [rtok_flat (l := r) (fun hm => h (by simp [hm]))]
    rfl
theorem tokOk_one (c : UInt8) : tokOk [c] = (c == 42 || c == 63 || plainC c) := by
  unfold tokOk
  rw [if_pos (show [c].length = 1 from rfl), plainL_one, eq_one, eq_one]
theorem flat_ok {l : List UInt8} (h : l.any (([42, 63, 123] : List UInt8).contains ·) = false) : (rtok l).all tokOk = l.all plainC := by
  rw [List.any_eq_false] at h
  rw [rtok_flat (fun hm => h 123 hm (by decide)), List.all_map]
  rw [Bool.eq_iff_iff, List.all_eq_true, List.all_eq_true]
  constructor
  · intro hh c hc
    have h1 := hh c hc
    have h2 := h c hc
    simp only [Function.comp_apply, tokOk_one] at h1
    rw [Bool.or_eq_true, Bool.or_eq_true] at h1
    rcases h1 with (e | e) | e
    · rw [eq_of_beq e] at h2; exact absurd (by decide) h2
    · rw [eq_of_beq e] at h2; exact absurd (by decide) h2
    · exact e
  · intro hh c hc
    simp only [Function.comp_apply, tokOk_one]
    rw [hh c hc, Bool.or_true]
theorem plain_same (l : List UInt8) : (goodP l && !Lib.containsAny l [42, 63, 123]) = (plainL l && decide (l.length ≤ 40)) := by
  rw [containsAny_any, good_same]
  cases hany : l.any (([42, 63, 123] : List UInt8).contains ·) with
  | false =>
    unfold goodR plainL
    rw [flat_ok hany]
    cases l with
    | nil => rfl
    | cons c r =>
      rw [decide_eq_true (show 1 ≤ (c :: r).length by simp)]
      cases decide ((c :: r).length ≤ 40) <;> cases (c :: r).all plainC <;> rfl
  | true =>
    obtain ⟨c, hc, hcc⟩ := List.any_eq_true.1 hany
    have hp : plainC c = false := by
      simp only [List.contains_cons, List.contains_nil, Bool.or_false, Bool.or_eq_true, beq_iff_eq] at hcc
      rcases hcc with rfl | rfl | rfl <;> decide
    have : plainL l = false := by
      unfold plainL
      rw [List.all_eq_false.2 ⟨c, hc, by simp [hp]⟩, Bool.and_false]
    rw [this, Bool.not_true, Bool.and_false, Bool.false_and]
/-! ### The program -/
theorem pieces_enters : ∀ args w, (callFunc 135 args).run Tryz.prog w = .ok (.enter 135 args) w := enters_of Tryz.func135 (by kernel_rfl) rfl
theorem pieces_any (s : ByteArray) (w : World) :
    Calls Tryz.prog 119 #[.string s] w fun e w' => e = .returned (.func (.func 135) #[] #[.pointer (some ⟨w.heap.size, 0, none⟩)]) ∧ w.alloc (.cells #[.string s] 9) = w' := by
  go_enter Tryz.func119, Tryz.ntmps119
  go_wp2
  go_ret
  exact ⟨rfl, rfl⟩
theorem pieces_seq (l : List UInt8) (w : World) (hE : EnvC w) (hl : l.length ≤ 100000) :
    SeqR Tryz.prog KpE encS (w.alloc (.cells #[strV l] 9)) 135 #[.pointer (some ⟨w.heap.size, 0, none⟩)] (pcs l) := fun lp cont J Jx hab hY W hW hJ => by
  have hb : Blk (w.alloc (.cells #[strV l] 9)) w.heap.size 9 #[strV l] := Blk.new w _ _
  have hE1 : EnvC (w.alloc (.cells #[strV l] 9)) := hE.below ((Below.refl _ w).alloc (Nat.le_refl _) _)
  exact pieces1_any l hl w.heap.size lp cont J Jx hab hY W (hE1.below hW) (hb.below hW hb.lt) hJ
theorem results_good (W : World) (b : Nat) (a : Array Value) (v : Bool) (h : Blk W b 4 #[.bool v]) (h2 : a[2]? = some (.pointer (some ⟨b, 0, none⟩))) :
    (results Tryz.f117 a).run Tryz.prog W = .ok (.bool v) W := by
  have c0 := (h.cl 0 _ rfl).1
  simp [results, Tryz.results117, go_sem, h2, c0]
set_option maxRecDepth 100000 in
set_option maxHeartbeats 4000000 in
theorem good_any (l : List UInt8) (w : World) (hE : EnvC w) (hl : (B l).size ≤ maxLen) :
    Calls Tryz.prog 117 #[.string (B l)] w fun e w' => e = .returned (.bool (goodP l)) ∧ Below w.heap.size w w' := by
  unfold maxLen at hl
  obtain ⟨rb, hrb⟩ : ∃ rb, w.heap.size = rb := ⟨_, rfl⟩
  obtain ⟨X, hX⟩ : ∃ X, w.alloc (.cells #[.bool false] 4) = X := ⟨_, rfl⟩
  have hbX : Below w.heap.size w X := by rw [← hX]; exact (Below.refl _ w).alloc (Nat.le_refl _) _
  have k1 : Blk X rb 4 #[.bool false] := by rw [← hX, ← hrb]; exact Blk.new w _ _
  have hrg : rb ≠ 2 := by
    obtain ⟨m, hm⟩ := hE
    have := lt_of_cell hm
    omega
  have HRG := Lib.hid hrg
  have HXE := Lib.hid hX
  have HRB := Lib.hid hrb
  have HSZ : Hid ((B l).size = l.length) := B_size l
  have HX0 : Hid (Below w.heap.size w X ∧ Blk X rb 4 #[.bool false] ∧ EnvC X) := ⟨hbX, k1, hE.below hbX⟩
  have HGD : Hid (goodP l = (decide (1 ≤ l.length) && decide (l.length ≤ 40) && (pcs l).all (fun t => !t.isEmpty))) := rfl
  have hc0 : X.cell? ⟨rb, 0, none⟩ = some (.bool false) := (k1.cl 0 _ rfl).1
  have hc0f : X.frozen? ⟨rb, 0, none⟩ = false := (k1.cl 0 _ rfl).2
  by_cases hlen : 1 ≤ l.length ∧ l.length ≤ 40
  · have HPI := Lib.hid (pieces_any (B l) X)
    have HPS := Lib.hid (pieces_seq l X HX0.out.2.2 (by omega))
    have HRUN : Hid (Rk.run (contP (fun _ t => !t.isEmpty) (pcs l)) (pcs l) [] = goodP l) := by
      show _ = _
      rw [contP_all, chk_each, HGD.out, decide_eq_true hlen.1, decide_eq_true hlen.2]
      rfl
    have i1 : ¬ ((B l).size : Int) < 1 := by have := HSZ.out; omega
    have i2 : ¬ (40 : Int) < ((B l).size : Int) := by have := HSZ.out; omega
    obtain ⟨L, hL⟩ : ∃ L, pcs l = L := ⟨_, rfl⟩
    rw [hL] at HRUN HPS
    obtain ⟨g, hg⟩ : ∃ g, goodP l = g := ⟨_, rfl⟩
    rw [hg] at HRUN ⊢
    obtain ⟨s, hs⟩ : ∃ s, B l = s := ⟨_, rfl⟩
    obtain ⟨Y, hY⟩ : ∃ Y, X.alloc (.cells #[.string s] 9) = Y := ⟨_, rfl⟩
    have HPI' : Hid (Calls Tryz.prog 119 #[.string s] X fun e w' => e = .returned (.func (.func 135) #[] #[.pointer (some ⟨X.heap.size, 0, none⟩)]) ∧ Y = w') := by rw [← hY, ← hs]; exact HPI.out
    have HPS' : Hid (SeqR Tryz.prog KpE encS Y 135 #[.pointer (some ⟨X.heap.size, 0, none⟩)] L) := by rw [← hY, ← hs]; exact HPS.out
    have hbY : Below X.heap.size X Y := by rw [← hY]; exact (Below.refl _ X).alloc (Nat.le_refl _) _
    have HYY : Hid (Below w.heap.size w Y ∧ Blk Y rb 4 #[.bool false] ∧ w.heap.size ≤ Y.heap.size) := ⟨below_step hbX (Nat.le_refl _) hbY, k1.below hbY k1.lt, Nat.le_trans hbX.size hbY.size⟩
    rw [hs] at i1 i2 hl ⊢
    clear hX hrb hbX k1 hE hrg HPI HPS hY hs hL hg hbY HGD HSZ hlen
    refine (callsIn_wide (n := 3)).1 ?_
    refine callsIn_of_wp_marks Tryz.func117 rfl trivial ?_ rfl
    simp only [Tryz.ntmps117, List.size_toArray, List.length_cons, List.length_nil, Nat.reduceAdd, Nat.reduceSub, Array.replicate_succ, Array.replicate_zero, List.push_toArray, List.append_toArray, List.nil_append, List.cons_append]
    gi_wp2_with fail
    rw [HXE.out, HRB.out]
    refine ⟨trivial, ?_⟩
    refine (callsIn_wide.2 HPI'.out).mono ?_
    rintro e w2 ⟨rfl, rfl⟩
    gi_wp2_with fail
    refine wpIn_rangeR (by decide) (gf := 135) rfl pieces_enters HPS'.out (fun h k => KpE.trans h k) (fun W k o o' hk hc _ => KpE.put o' hk hc) (Below.refl _ _) (fun _ => rfl)
      (contP (fun _ t => !t.isEmpty) L) (fun rest V => (∃ pre, L = pre ++ rest) ∧ Blk V rb 4 #[.bool false] ∧ Below w.heap.size w V) (fun c V => c = .ret ∧ Blk V rb 4 #[.bool false] ∧ Below w.heap.size w V) ?own ?ownx ⟨⟨[], rfl⟩, HYY.out.2.1, HYY.out.1⟩ ?a1 ?assign ?body ?done ?stop
    case own =>
      rintro rest A A' row ⟨e1, e3, e5⟩ hg hr
      have hf : Free A A' := ⟨row, hg, fun r e => (hr r e).2⟩
      exact ⟨e1, hf.blk e3, below_free e5 (Nat.le_refl _) hg (fun r e => Nat.le_trans HYY.out.2.2 (hr r e).1)⟩
    case ownx =>
      rintro c A A' row ⟨e1, e3, e5⟩ hg hr
      have hf : Free A A' := ⟨row, hg, fun r e => (hr r e).2⟩
      exact ⟨e1, hf.blk e3, below_free e5 (Nat.le_refl _) hg (fun r e => Nat.le_trans HYY.out.2.2 (hr r e).1)⟩
    case assign =>
      intro lp x V K hK
      simp only [encS]
      gi_wp2
      exact hK
    case body =>
      rintro lp x rest V ⟨⟨pre, e1⟩, e3, e5⟩
      have hc : contP (fun _ t => !t.isEmpty) L rest = !x.isEmpty := by rw [e1]; exact contP_at _ _ _ _
      rw [hc]
      have HE1 : Hid (∃ pre, L = pre ++ rest) := ⟨pre ++ [x], by rw [e1]; simp⟩
      have HE3 := Lib.hid e3
      have HE5 := Lib.hid e5
      have c1 : V.cell? ⟨rb, 0, none⟩ = some (.bool false) := (e3.cl 0 _ rfl).1
      have c1f : V.frozen? ⟨rb, 0, none⟩ = false := (e3.cl 0 _ rfl).2
      have hq : (B x).toList.isEmpty = x.isEmpty := by rw [Lib.toList_data]
      have hq1 : ((B x).toList == []) = x.isEmpty := by rw [eq_lit]; cases x <;> rfl
      obtain ⟨xe, hxe⟩ : ∃ xe, x.isEmpty = xe := ⟨_, rfl⟩
      rw [hxe] at hq hq1 ⊢
      obtain ⟨xb, hxb⟩ : ∃ xb, B x = xb := ⟨_, rfl⟩
      have HXB := Lib.hid hxb
      rw [hxb] at hq hq1
      show Code.wpIn _ _ _ _ _ { tmps := #[_, _, _, .string (B x), _, _, _, _, _, _, _, _, _, _, _, _, _], defers := _ } _
      rw [HXB.out]
      clear e1 e3 e5 hc hxe hxb HXB
      cases xe with
      | true =>
        have HFIN : Hid (KeepsOthers V (V.setCell ⟨rb, 0, none⟩ (.bool false)) ∧ KpE V (V.setCell ⟨rb, 0, none⟩ (.bool false)) ∧ Blk (V.setCell ⟨rb, 0, none⟩ (.bool false)) rb 4 #[.bool false] ∧ Below w.heap.size w (V.setCell ⟨rb, 0, none⟩ (.bool false))) :=
          ⟨KeepsOthers.setCell _ _ _, KpE.set HRG.out 0 _, HE3.out.set 0 _, HE5.out.setCell (p := ⟨rb, 0, none⟩) (by rw [HRB.out]; exact Nat.le_refl _) _⟩
        gi_wp2
        exact ⟨HFIN.out.1, HFIN.out.2.1, rfl, rfl, HFIN.out.2.2.1, HFIN.out.2.2.2⟩
      | false =>
        gi_wp2
        exact ⟨KeepsOthers.refl _, KpE.refl _, rfl, HE1.out, HE3.out, HE5.out⟩
    case done =>
      rintro D V hD hrun ⟨e1, e3, e5⟩ hK
      have HR : Hid (g = true) := HRUN.out.symm.trans hrun
      have HM : Hid (Marks w.heap.size [D] V) := (Marks.nil _ _).cons (Nat.le_trans HYY.out.2.2 hD) hK (by simp)
      have c1 : V.cell? ⟨rb, 0, none⟩ = some (.bool false) := (e3.cl 0 _ rfl).1
      have c1f := (e3.cl 0 _ rfl).2
      have HV : Hid (Blk (V.setCell ⟨rb, 0, none⟩ (.bool true)) rb 4 #[.bool true] ∧ Below w.heap.size w (V.setCell ⟨rb, 0, none⟩ (.bool true)) ∧ Marks w.heap.size [D] (V.setCell ⟨rb, 0, none⟩ (.bool true))) := ⟨e3.set 0 _, e5.setCell (p := ⟨rb, 0, none⟩) (by rw [HRB.out]; exact Nat.le_refl _) _, HM.out.set e3 0 _⟩
      clear e1 e3 e5 hK hrun
      gi_wp2
      exact leaves_marks [D] _ HV.out.2.2 fun W' hs => ⟨_, results_good W' rb _ true (hs.2 _ _ _ HV.out.1) rfl, by rw [HR.out], HV.out.2.1.trans hs.1⟩
    case stop =>
      rintro D c V hD hrun ⟨rfl, e3, e5⟩ hK
      have HR : Hid (g = false) := HRUN.out.symm.trans hrun
      have HM : Hid (Marks w.heap.size [D] V) := (Marks.nil _ _).cons (Nat.le_trans HYY.out.2.2 hD) hK (by simp)
      have HE3 := Lib.hid e3
      have HE5 := Lib.hid e5
      clear e3 e5 hK hrun
      gi_wp2
      exact leaves_marks [D] _ HM.out fun W' hs => ⟨_, results_good W' rb _ false (hs.2 _ _ _ HE3.out) rfl, by rw [HR.out], HE5.out.trans hs.1⟩
  · have hgf : goodP l = false := by
      rw [HGD.out]
      by_cases h1 : 1 ≤ l.length
      · rw [decide_eq_false (fun h2 => hlen ⟨h1, h2⟩), Bool.and_false, Bool.false_and]
      · rw [decide_eq_false h1, Bool.false_and, Bool.false_and]
    rw [hgf]
    have HFIN : Hid (Blk (X.setCell ⟨rb, 0, none⟩ (.bool false)) rb 4 #[.bool false] ∧ Below w.heap.size w (X.setCell ⟨rb, 0, none⟩ (.bool false))) := ⟨k1.set 0 _, hbX.setCell (p := ⟨rb, 0, none⟩) (by rw [hrb]; exact Nat.le_refl _) _⟩
    have hsz := HSZ.out
    obtain ⟨s, hs⟩ : ∃ s, B l = s := ⟨_, rfl⟩
    rw [hs] at hsz hl ⊢
    by_cases h1 : 1 ≤ l.length
    · have i1 : ¬ (s.size : Int) < 1 := by omega
      have i2 : (40 : Int) < (s.size : Int) := by have : ¬ l.length ≤ 40 := fun h2 => hlen ⟨h1, h2⟩; omega
      clear hbX k1 hE hrg hs HGD HSZ hlen hgf hsz h1 HX0
      refine (callsIn_wide (n := 3)).1 ?_
      refine callsIn_of_wp_marks Tryz.func117 rfl trivial ?_ rfl
      simp only [Tryz.ntmps117, List.size_toArray, List.length_cons, List.length_nil, Nat.reduceAdd, Nat.reduceSub, Array.replicate_succ, Array.replicate_zero, List.push_toArray, List.append_toArray, List.nil_append, List.cons_append]
      gi_wp2
      exact leaves_marks [] _ (Marks.nil w.heap.size _) fun W' hs => ⟨_, results_good W' rb _ false (hs.2 _ _ _ HFIN.out.1) rfl, rfl, (by first | exact HFIN.out.2.trans hs.1 | (have := HFIN.out.2.trans hs.1; rwa [hrb] at this))⟩
    · have i1 : (s.size : Int) < 1 := by omega
      clear hbX k1 hE hrg hs HGD HSZ hlen hgf hsz h1 HX0
      refine (callsIn_wide (n := 3)).1 ?_
      refine callsIn_of_wp_marks Tryz.func117 rfl trivial ?_ rfl
      simp only [Tryz.ntmps117, List.size_toArray, List.length_cons, List.length_nil, Nat.reduceAdd, Nat.reduceSub, Array.replicate_succ, Array.replicate_zero, List.push_toArray, List.append_toArray, List.nil_append, List.cons_append]
      gi_wp2
      exact leaves_marks [] _ (Marks.nil w.heap.size _) fun W' hs => ⟨_, results_good W' rb _ false (hs.2 _ _ _ HFIN.out.1) rfl, rfl, (by first | exact HFIN.out.2.trans hs.1 | (have := HFIN.out.2.trans hs.1; rwa [hrb] at this))⟩
/-- of what is no pattern, nothing is gone through -/
theorem good_plain (l : List UInt8) (h : goodP l = true) : 1 ≤ l.length ∧ l.length ≤ 40 := (good_toks h).2.2
set_option maxHeartbeats 1000000 in
theorem tokens_any (l : List UInt8) (w : World) (hE : EnvC w) (hg : goodP l = true) :
    Calls Tryz.prog 97 #[.string (B l)] w fun e w' => ∃ lb, e = .returned (.func (.func 135) #[] lb) ∧ Below w.heap.size w w' ∧ SeqR Tryz.prog KpE encS w' 135 lb (pcs l) := by
  have hll := (good_plain l hg).2
  have HG := Lib.hid (good_any l w hE (small_max (by omega)))
  rw [hg] at HG
  have HP := fun w => Lib.hid (pieces_any (B l) w)
  have HS := fun w hE => Lib.hid (pieces_seq l w hE (by omega))
  have HE := Lib.hid hE
  obtain ⟨s, hs⟩ : ∃ s, B l = s := ⟨_, rfl⟩
  rw [hs] at HG ⊢
  simp only [hs] at HP
  have HSS := Lib.hid hs
  clear hs hE hll hg
  go_enter Tryz.func97, Tryz.ntmps97
  go_wp2_with fail
  refine HG.out.mono ?_
  rintro e w1 ⟨rfl, hb⟩
  have HB := Lib.hid hb
  have HS1 := (HS w1 (HE.out.below hb))
  clear hb HS
  go_wp2_with fail
  refine (HP _).out.mono ?_
  rintro e w2 ⟨rfl, hw2⟩
  have HB2 : Hid (Below w.heap.size w w2) := below_step HB.out (Nat.le_refl _) (by rw [← hw2]; exact (Below.refl _ w1).alloc (Nat.le_refl _) _)
  have HS2 : Hid (SeqR Tryz.prog KpE encS w2 135 #[.pointer (some ⟨w1.heap.size, 0, none⟩)] (pcs l)) := by
    have := HS1.out
    show SeqR _ _ _ _ _ _ _
    rw [← hw2, ← HSS.out]
    exact this
  clear hw2 HS1
  go_wp2
  go_ret
  exact ⟨_, rfl, HB2.out, HS2.out⟩
end Gb
end Go.Proofs.YtiahelekgjdjlaaGreatDoor
