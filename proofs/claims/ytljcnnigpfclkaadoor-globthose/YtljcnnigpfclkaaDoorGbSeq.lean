
/- strings.SplitSeq at one byte: an iterator over a text's parts, which keeps what is left in a block of its own. -/
import Derived.Test.YtljcnnigpfclkaaDoorGbBase
import Derived.Test.YtljcnnigpfclkaaDoorRangeB
import Derived.Test.YtljcnnigpfclkaaDoorShelf
import Derived.LoopIn
import Derived.Laws.EntriesVeiled
import Derived.Shelf.AbstractIn
import Derived.ShutString
import Derived.RangeFuncBox
namespace Go.Proofs.YtljcnnigpfclkaaDoor
open Go.RowKit Go.Shelf
attribute [local go_sem] Oper.semAt_some
open Dp
namespace Gb
/-- what the rounds must leave: the iterator's three blocks -/
def Keep3 (b : Nat) (A B : World) : Prop := ∀ i, i < 3 → ∀ t cs, Blk A (b + i) t cs → Blk B (b + i) t cs
theorem Keep3.refl (b : Nat) (A : World) : Keep3 b A A := fun _ _ _ _ h => h
theorem Keep3.trans {b : Nat} {A B C : World} (h : Keep3 b A B) (k : Keep3 b B C) : Keep3 b A C := fun i hi t cs hb => k i hi t cs (h i hi t cs hb)
/-- what the iterator keeps -/
structure Box3 (W : World) (b : Nat) (c : UInt8) (r : List UInt8) : Prop where
  s : Blk W b 9 #[.string (B r)]
  sep : Blk W (b + 1) 9 #[.string ⟨#[c]⟩]
  save : Blk W (b + 2) 3 #[.int .i64 0]
theorem Box3.keep {W W' : World} {b : Nat} {c : UInt8} {r : List UInt8} (h : Box3 W b c r) (k : Keep3 b W W') : Box3 W' b c r := ⟨k 0 (by decide) _ _ h.s, k 1 (by decide) _ _ h.sep, k 2 (by decide) _ _ h.save⟩
theorem Box3.below {W W' : World} {b : Nat} {c : UInt8} {r : List UInt8} (h : Box3 W b c r) (k : Below W.heap.size W W') : Box3 W' b c r := ⟨h.s.below k h.s.lt, h.sep.below k h.sep.lt, h.save.below k h.save.lt⟩
theorem Box3.set {W : World} {b : Nat} {c : UInt8} {r : List UInt8} (h : Box3 W b c r) (r' : List UInt8) : Box3 (W.setCell ⟨b, 0, none⟩ (.string (B r'))) b c r' :=
  ⟨h.s.set 0 _, h.sep.other (by show b ≠ b + 1; omega) _, h.save.other (by show b ≠ b + 2; omega) _⟩
def leftM (b : Nat) (W : World) : Nat := match W.cell? ⟨b, 0, none⟩ with
  | some (.string s) => s.size
  | _ => 0
theorem leftM_eq {W : World} {b : Nat} {c : UInt8} {r : List UInt8} (h : Box3 W b c r) : leftM b W = r.length := by
  unfold leftM
  rw [(h.s.cl 0 _ rfl).1]
  exact B_size r
theorem index_hit {c : UInt8} {a : List UInt8} (b : List UInt8) (h : c ∉ a) : Lib.indexByte (a ++ c :: b) c = (a.length : Int) := by rw [← Lib.index_one]; exact index_app b h
theorem index_miss {c : UInt8} {l : List UInt8} (h : c ∉ l) : Lib.indexByte l c = -1 := by rw [← Lib.index_one]; exact index_not h
theorem B_take (a b : List UInt8) (c : UInt8) : (B (a ++ c :: b)).extract 0 a.length = B a := by
  rw [Lib.extract_eq]; simp
theorem B_drop (a b : List UInt8) (c : UInt8) : (B (a ++ c :: b)).extract (a.length + 1) (B (a ++ c :: b)).size = B b := by
  rw [Lib.extract_eq, B_size]
  have e : (a ++ c :: b).drop (a.length + 1) = b := by simp
  show B (((a ++ c :: b).drop (a.length + 1)).take _) = _
  rw [e, List.take_of_length_le (by simp; omega)]
theorem splitSeq1_enters : ∀ args w, (callFunc 79 args).run Tryd.prog w = .ok (.enter 79 args) w := enters_of Tryd.func79 (by kernel_rfl) rfl
set_option maxRecDepth 100000 in
set_option maxHeartbeats 4000000 in
theorem splitSeq1_any (c : UInt8) (l : List UInt8) (hl : l.length ≤ 100000) (b lp : Nat) (cont : List (List UInt8) → Bool) (J : List (List UInt8) → World → Prop) (Jx : World → Prop) (hab : ∀ l A B, J l A → Only [b] A B → J l B)
    (hY : ∀ x rest W, J (x :: rest) W → YieldAt Fence.wide 0 Tryd.prog lp #[.string (B x)] W fun e W' => e = .returned (.bool (cont rest)) ∧ Rk.Res J Jx (cont rest) rest W' ∧ Keep3 b W W')
    (W : World) (hB : Box3 W b c l) (hJ : J (spl c l) W) :
    Calls Tryd.prog 79 #[.func (.yield lp) #[] #[], .pointer (some ⟨b + 1, 0, none⟩), .pointer (some ⟨b, 0, none⟩), .pointer (some ⟨b + 2, 0, none⟩)] W fun e W' => (∃ v, e = .returned v) ∧ Rk.Res J Jx (Rk.run cont (spl c l) []) [] W' := by
  have HST : Hid (l.length ≤ 100000 ∧ Box3 W b c l ∧ J (spl c l) W) := ⟨hl, hB, hJ⟩
  obtain ⟨bsep, hbsep⟩ : ∃ x, b + 1 = x := ⟨_, rfl⟩
  obtain ⟨bsv, hbsv⟩ : ∃ x, b + 2 = x := ⟨_, rfl⟩
  have c1 : W.cell? ⟨bsep, 0, none⟩ = some (.string ⟨#[c]⟩) := by rw [← hbsep]; exact (hB.sep.cl 0 _ rfl).1
  have HAB := Lib.hid hab
  have HY := Lib.hid hY
  have HBP := Lib.hid hbsep
  have HBV := Lib.hid hbsv
  rw [hbsep, hbsv]
  obtain ⟨RR, hRR⟩ : ∃ RR, Rk.run cont (spl c l) [] = RR := ⟨_, rfl⟩
  rw [hRR]
  have HRR := Lib.hid hRR
  clear hab hY hB hJ hbsep hbsv hRR hl
  refine (callsIn_wide (n := 3)).1 ?_
  refine callsIn_of_wp Tryd.func79 rfl trivial ?_ rfl
  simp only [Tryd.ntmps79, List.size_toArray, List.length_cons, List.length_nil, Nat.reduceAdd, Nat.reduceSub, Array.replicate_succ, Array.replicate_zero, List.push_toArray, List.append_toArray, List.nil_append, List.cons_append]
  gi_wp2
  gi_loopw [7, 8] (fun _ _ wr => ∃ r, Hid (r.length ≤ 100000 ∧ Box3 wr b c r ∧ J (spl c r) wr ∧ RR = Rk.run cont (spl c r) [])) (fun _ _ wr => leftM b wr)
  case atStart => exact ⟨l, ⟨HST.out.1, HST.out.2.1, HST.out.2.2, HRR.out.symm⟩⟩
  case round =>
    clear c1 HST HRR
    obtain ⟨r, HR⟩ := hrel
    have c0 : wr.cell? ⟨b, 0, none⟩ = some (.string (B r)) := (HR.out.2.1.s.cl 0 _ rfl).1
    have c1 : wr.cell? ⟨bsep, 0, none⟩ = some (.string ⟨#[c]⟩) := by rw [← HBP.out]; exact (HR.out.2.1.sep.cl 0 _ rfl).1
    have c2 : wr.cell? ⟨bsv, 0, none⟩ = some (.int .i64 0) := by rw [← HBV.out]; exact (HR.out.2.1.save.cl 0 _ rfl).1
    have HIX := Lib.hid (Tryd.strings_Index_one (B r) c wr)
    rcases cut_cases c r with ⟨hn, -⟩ | ⟨a, t, hn, hr, -⟩
    · have HJ : Hid (J [r] wr ∧ RR = cont []) := by
        have h3 := HR.out.2.2.1
        have h4 := HR.out.2.2.2
        rw [spl_not hn] at h3 h4
        exact ⟨h3, by rw [h4]; simp [Rk.run]⟩
      have hix : Lib.indexByte (B r).data.toList c = -1 := index_miss hn
      rw [hix] at HIX
      obtain ⟨fn, tmps, assign, body, hy, hRR⟩ := HY.out r [] wr HJ.out.1
      have HRD := Lib.hid hRR
      clear hn hix hRR
      gi_wp2_with (first | (refine ⟨trivial, ?_⟩; gi_at_call 62; refine (callsIn_wide.2 HIX.out).mono ?_; rintro e w3 ⟨rfl, rfl⟩))
      gi_wp2
      refine (round_any HRD.out).mono ?_
      rintro e W3 ⟨rfl, R3, -⟩
      have HFIN : Hid (Rk.Res J Jx RR [] W3) := by rw [HJ.out.2]; exact R3
      clear R3
      gi_wp2
      go_end0
      exact ⟨⟨_, rfl⟩, HFIN.out⟩
    · have HJ : Hid (J (a :: spl c t) wr ∧ RR = (cont (spl c t) && Rk.run cont (spl c t) [])) := by
        have h3 := HR.out.2.2.1
        have h4 := HR.out.2.2.2
        rw [hr, spl_app t hn] at h3 h4
        exact ⟨h3, by rw [h4, Rk.run, List.append_nil]⟩
      have hix : Lib.indexByte (B r).data.toList c = (a.length : Int) := by rw [hr]; exact index_hit t hn
      rw [hix] at HIX
      obtain ⟨fn, tmps, assign, body, hy, hRR⟩ := HY.out a (spl c t) wr HJ.out.1
      have HRD := Lib.hid hRR
      have x1 := B_take a t c
      have x2 := B_drop a t c
      have hlr : r.length = a.length + 1 + t.length := by rw [hr]; simp; omega
      rw [← hr] at x1 x2
      have hBr := B_size r
      obtain ⟨s, hs⟩ : ∃ s, B r = s := ⟨_, rfl⟩
      obtain ⟨n, hna⟩ : ∃ n, a.length = n := ⟨_, rfl⟩
      rw [hs] at x1 x2 c0 HIX hBr
      rw [hna] at x1 x2 HIX hlr
      have hrl := HR.out.1
      have HLR := Lib.hid hlr
      have i0 : ¬ ((n : Int) < 0) := by omega
      have i1 : (n : Int) ≤ (s.size : Int) := by omega
      have i2 : (n : Int) + 1 ≤ (s.size : Int) := by omega
      have i4 : wrap64 (n : Int) = (n : Int) := IntWalk.wrap64_in _ ⟨by omega, by omega⟩
      have i3 : wrap64 ((n : Int) + 1) = (n : Int) + 1 := IntWalk.wrap64_in _ ⟨by omega, by omega⟩
      have HTL : Hid (t.length ≤ 100000) := by show _ ≤ _; omega
      clear hn hix hRR hlr hBr hrl hr
      obtain ⟨bb, hbb⟩ : ∃ bb, cont (spl c t) = bb := ⟨_, rfl⟩
      rw [hbb] at HRD HJ
      clear hbb
      gi_wp2_with (first | (refine ⟨trivial, ?_⟩; gi_at_call 62; refine (callsIn_wide.2 HIX.out).mono ?_; rintro e w3 ⟨rfl, rfl⟩))
      gi_wp2
      refine (round_any HRD.out).mono ?_
      rintro e W3 ⟨rfl, R3, K3⟩
      have HB3 := Lib.hid (HR.out.2.1.keep K3)
      have d0 : W3.cell? ⟨b, 0, none⟩ = some (.string s) := by rw [← hs]; exact (HB3.out.s.cl 0 _ rfl).1
      have d0f : W3.frozen? ⟨b, 0, none⟩ = false := (HB3.out.s.cl 0 _ rfl).2
      have d1 : W3.cell? ⟨bsep, 0, none⟩ = some (.string ⟨#[c]⟩) := by rw [← HBP.out]; exact (HB3.out.sep.cl 0 _ rfl).1
      cases bb with
      | false =>
        have HFIN : Hid (Rk.Res J Jx RR [] W3) := ⟨(fun h => by rw [HJ.out.2] at h; cases h), fun _ => R3.2 rfl⟩
        clear R3 K3
        gi_wp2
        refine bodyPost_ret (results_none rfl _ _ _) rfl ?_
        exact ⟨⟨_, rfl⟩, HFIN.out⟩
      | true =>
        have HN : Hid (t.length ≤ 100000 ∧ Box3 (W3.setCell ⟨b, 0, none⟩ (.string (B t))) b c t ∧ J (spl c t) (W3.setCell ⟨b, 0, none⟩ (.string (B t))) ∧ RR = Rk.run cont (spl c t) []) :=
          ⟨HTL.out, HB3.out.set t, HAB.out _ _ _ (R3.1 rfl) (Only.set W3 b 0 _ (by simp)), by rw [HJ.out.2, Bool.true_and]⟩
        clear R3 K3
        gi_wp2
        go_roundw
        case rel => exact ⟨t, HN⟩
        case measure =>
          rw [leftM_eq HN.out.2.1, leftM_eq HR.out.2.1, HLR.out]; omega
theorem splitSeq_any (s sep : ByteArray) (w : World) :
    Calls Tryd.prog 64 #[.string s, .string sep, .int .i64 0] w fun e w' => e = .returned (.func (.func 79) #[] #[.pointer (some ⟨w.heap.size + 1, 0, none⟩), .pointer (some ⟨w.heap.size, 0, none⟩), .pointer (some ⟨w.heap.size + 2, 0, none⟩)]) ∧ ((w.alloc (.cells #[.string s] 9)).alloc (.cells #[.string sep] 9)).alloc (.cells #[.int .i64 0] 3) = w' := by
  go_enter Tryd.func64, Tryd.ntmps64
  go_wp2
  go_ret
  exact ⟨by simp, rfl⟩
theorem box3_new (l : List UInt8) (c : UInt8) (w : World) : Box3 (((w.alloc (.cells #[.string (B l)] 9)).alloc (.cells #[.string ⟨#[c]⟩] 9)).alloc (.cells #[.int .i64 0] 3)) w.heap.size c l := by
  have h1 := Blk.new w 9 #[.string (B l)]
  have h2 := Blk.new (w.alloc (.cells #[.string (B l)] 9)) 9 #[.string ⟨#[c]⟩]
  have h3 := Blk.new ((w.alloc (.cells #[.string (B l)] 9)).alloc (.cells #[.string ⟨#[c]⟩] 9)) 3 #[.int .i64 0]
  simp only [World.size_alloc] at h2 h3
  exact ⟨(h1.alloc _).alloc _, h2.alloc _, h3⟩
/-- the parts of a text, one by one -/
theorem splitSeq_pub (l : List UInt8) (c : UInt8) (w : World) (hl : l.length ≤ 100000) :
    Calls Tryd.prog 49 #[.string (B l), .string ⟨#[c]⟩] w fun e w' => ∃ lbf, e = .returned (.func (.func 79) #[] lbf) ∧ SeqB Tryd.prog w.heap.size (Keep3 w.heap.size) (fun x : List UInt8 => #[.string (B x)]) w' 79 lbf (spl c l) ∧ Below w.heap.size w w' ∧ w'.heap.size = w.heap.size + 3 ∧ Box3 w' w.heap.size c l := by
  have H := Lib.hid (splitSeq_any (B l) ⟨#[c]⟩ w)
  have HX := Lib.hid (box3_new l c w)
  have HBW : Hid (Below w.heap.size w (((w.alloc (.cells #[.string (B l)] 9)).alloc (.cells #[.string ⟨#[c]⟩] 9)).alloc (.cells #[.int .i64 0] 3))) := ((((Below.refl _ w).alloc (Nat.le_refl _) _).alloc (by simp) _).alloc (by simp; omega) _)
  have HZ : Hid ((((w.alloc (.cells #[.string (B l)] 9)).alloc (.cells #[.string ⟨#[c]⟩] 9)).alloc (.cells #[.int .i64 0] 3)).heap.size = w.heap.size + 3) := by show _ = _; simp
  generalize ((w.alloc (.cells #[.string (B l)] 9)).alloc (.cells #[.string ⟨#[c]⟩] 9)).alloc (.cells #[.int .i64 0] 3) = w1 at H HX HBW HZ
  go_enter Tryd.func49, Tryd.ntmps49
  go_wp2_with fail
  refine H.out.mono ?_
  rintro e w2 ⟨rfl, rfl⟩
  go_wp2
  go_ret
  refine ⟨_, rfl, fun lp cont J Jx hab hY W hW hJ => ?_, HBW.out, HZ.out, HX.out⟩
  exact splitSeq1_any c l hl w.heap.size lp cont J Jx hab hY W (HX.out.below hW) hJ
end Gb
end Go.Proofs.YtljcnnigpfclkaaDoor
