
/- What package glob's Good, Plain and Tokens answer. -/
import Derived.Test.YtljcnnigpfclkaaDoorGbGood
import Derived.Shelf.Strings.SlTrimAscii
namespace Go.Proofs.YtljcnnigpfclkaaDoor
open Go.RowKit Go.Shelf
open Dp
attribute [local go_sem] Oper.semAt_some
namespace Gb
/-! ### Plain -/
theorem chk_each {α : Type} (p : α → Bool) : ∀ (L : List α) (i : Nat), chk (fun _ x => p x) i L = L.all p
  | [], _ => rfl
  | x :: L, i => by rw [chk, chk_each p L (i + 1), List.all_cons]
theorem containsAny_any (cs : List UInt8) : ∀ l : List UInt8, Lib.containsAny l cs = l.any (cs.contains ·)
  | [] => rfl
  | b :: l => by
    have ih := containsAny_any cs l
    have hge := Lib.indexAny_ge cs l
    unfold Lib.containsAny at ih ⊢
    rw [List.any_cons, ← ih, Lib.indexAny]
    cases hb : cs.contains b with
    | true => simp
    | false =>
      rw [if_neg (by decide), Bool.false_or]
      by_cases hn : Lib.indexAny l cs = -1
      · rw [hn]; rfl
      · rw [if_neg (by simpa using hn)]
        rw [Bool.eq_iff_iff]
        simp only [decide_eq_true_eq]
        omega
theorem rtok_flat : ∀ {l : List UInt8}, (123 : UInt8) ∉ l → rtok l = l.map fun c => [c]
  | [], _ => rfl
  | c :: r, h => by
    have hc : (c == 123) = false := beq_eq_false_iff_ne.2 (fun e => h (by simp [e]))
    have e1 : rfirst (c :: r) = [c] := by rw [rfirst_cons, hc, Bool.false_and, if_neg (by decide)]
    rw [rtok_more (by simp), e1]
    show [c] :: rtok r = _
    rw [rtok_flat (l := r) (fun hm => h (by simp [hm]))]
    rfl
theorem tokOk_one (c : UInt8) : tokOk [c] = (c == 42 || c == 63 || plainC c) := by
  unfold tokOk
  rw [if_pos (show [c].length = 1 from rfl), plainL_one, eq_one, eq_one]
theorem flat_ok {l : List UInt8} (h : l.any (([42, 63, 123] : List UInt8).contains ·) = false) : (rtok l).all tokOk = l.all plainC := by
  rw [List.any_eq_false] at h
  rw [rtok_flat (fun hm => h 123 hm (by decide)), List.all_map]
  rw [Bool.eq_iff_iff, List.all_eq_true, List.all_eq_true]
  constructor
  · intro hh c hc
    have h1 := hh c hc
    have h2 := h c hc
    simp only [Function.comp_apply, tokOk_one] at h1
    rw [Bool.or_eq_true, Bool.or_eq_true] at h1
    rcases h1 with (e | e) | e
    · rw [eq_of_beq e] at h2; exact absurd (by decide) h2
    · rw [eq_of_beq e] at h2; exact absurd (by decide) h2
    · exact e
  · intro hh c hc
    simp only [Function.comp_apply, tokOk_one]
    rw [hh c hc, Bool.or_true]
theorem plain_same (l : List UInt8) : (goodP l && !Lib.containsAny l [42, 63, 123]) = (plainL l && decide (l.length ≤ 40)) := by
  rw [containsAny_any, good_same]
  cases hany : l.any (([42, 63, 123] : List UInt8).contains ·) with
  | false =>
    unfold goodR plainL
    rw [flat_ok hany]
    cases l with
    | nil => rfl
    | cons c r =>
      rw [decide_eq_true (show 1 ≤ (c :: r).length by simp)]
      cases decide ((c :: r).length ≤ 40) <;> cases (c :: r).all plainC <;> rfl
  | true =>
    obtain ⟨c, hc, hcc⟩ := List.any_eq_true.1 hany
    have hp : plainC c = false := by
      simp only [List.contains_cons, List.contains_nil, Bool.or_false, Bool.or_eq_true, beq_iff_eq] at hcc
      rcases hcc with rfl | rfl | rfl <;> decide
    have : plainL l = false := by
      unfold plainL
      rw [List.all_eq_false.2 ⟨c, hc, by simp [hp]⟩, Bool.and_false]
    rw [this, Bool.not_true, Bool.and_false, Bool.false_and]
/-! ### The program -/
theorem pieces_enters : ∀ args w, (callFunc 32 args).run Tryd.prog w = .ok (.enter 32 args) w := enters_of Tryd.func32 (by kernel_rfl) rfl
theorem pieces_any (s : ByteArray) (w : World) :
    Calls Tryd.prog 21 #[.string s] w fun e w' => e = .returned (.func (.func 32) #[] #[.pointer (some ⟨w.heap.size, 0, none⟩)]) ∧ w.alloc (.cells #[.string s] 9) = w' := by
  go_enter Tryd.func21, Tryd.ntmps21
  go_wp2
  go_ret
  exact ⟨rfl, rfl⟩
theorem pieces_seq (l : List UInt8) (w : World) (hE : EnvC w) (hl : l.length ≤ 100000) :
    SeqR Tryd.prog KpE encS (w.alloc (.cells #[strV l] 9)) 32 #[.pointer (some ⟨w.heap.size, 0, none⟩)] (pcs l) := fun lp cont J Jx hab hY W hW hJ => by
  have hb : Blk (w.alloc (.cells #[strV l] 9)) w.heap.size 9 #[strV l] := Blk.new w _ _
  have hE1 : EnvC (w.alloc (.cells #[strV l] 9)) := hE.below ((Below.refl _ w).alloc (Nat.le_refl _) _)
  exact pieces1_any l hl w.heap.size lp cont J Jx hab hY W (hE1.below hW) (hb.below hW hb.lt) hJ
theorem results_good (W : World) (b : Nat) (a : Array Value) (v : Bool) (h : Blk W b 4 #[.bool v]) (h2 : a[2]? = some (.pointer (some ⟨b, 0, none⟩))) :
    (results Tryd.f8 a).run Tryd.prog W = .ok (.bool v) W := by
  have c0 := (h.cl 0 _ rfl).1
  simp [results, Tryd.results8, go_sem, h2, c0]
set_option maxRecDepth 100000 in
set_option maxHeartbeats 4000000 in
theorem good_any (l : List UInt8) (w : World) (hE : EnvC w) (hl : (B l).size ≤ maxLen) :
    Calls Tryd.prog 8 #[.string (B l)] w fun e w' => e = .returned (.bool (goodP l)) ∧ Below w.heap.size w w' := by
  unfold maxLen at hl
  obtain ⟨rb, hrb⟩ : ∃ rb, w.heap.size = rb := ⟨_, rfl⟩
  obtain ⟨X, hX⟩ : ∃ X, w.alloc (.cells #[.bool false] 4) = X := ⟨_, rfl⟩
  have hbX : Below w.heap.size w X := by rw [← hX]; exact (Below.refl _ w).alloc (Nat.le_refl _) _
  have k1 : Blk X rb 4 #[.bool false] := by rw [← hX, ← hrb]; exact Blk.new w _ _
  have hrg : rb ≠ 0 := by
    obtain ⟨m, hm⟩ := hE
    have := lt_of_cell hm
    omega
  have HRG := Lib.hid hrg
  have HXE := Lib.hid hX
  have HRB := Lib.hid hrb
  have HSZ : Hid ((B l).size = l.length) := B_size l
  have HX0 : Hid (Below w.heap.size w X ∧ Blk X rb 4 #[.bool false] ∧ EnvC X) := ⟨hbX, k1, hE.below hbX⟩
  have HGD : Hid (goodP l = (decide (1 ≤ l.length) && decide (l.length ≤ 40) && (pcs l).all (fun t => !t.isEmpty))) := rfl
  have hc0 : X.cell? ⟨rb, 0, none⟩ = some (.bool false) := (k1.cl 0 _ rfl).1
  have hc0f : X.frozen? ⟨rb, 0, none⟩ = false := (k1.cl 0 _ rfl).2
  by_cases hlen : 1 ≤ l.length ∧ l.length ≤ 40
  · have HPI := Lib.hid (pieces_any (B l) X)
    have HPS := Lib.hid (pieces_seq l X HX0.out.2.2 (by omega))
    have HRUN : Hid (Rk.run (contP (fun _ t => !t.isEmpty) (pcs l)) (pcs l) [] = goodP l) := by
      show _ = _
      rw [contP_all, chk_each, HGD.out, decide_eq_true hlen.1, decide_eq_true hlen.2]
      rfl
    have i1 : ¬ ((B l).size : Int) < 1 := by have := HSZ.out; omega
    have i2 : ¬ (40 : Int) < ((B l).size : Int) := by have := HSZ.out; omega
    obtain ⟨L, hL⟩ : ∃ L, pcs l = L := ⟨_, rfl⟩
    rw [hL] at HRUN HPS
    obtain ⟨g, hg⟩ : ∃ g, goodP l = g := ⟨_, rfl⟩
    rw [hg] at HRUN ⊢
    obtain ⟨s, hs⟩ : ∃ s, B l = s := ⟨_, rfl⟩
    obtain ⟨Y, hY⟩ : ∃ Y, X.alloc (.cells #[.string s] 9) = Y := ⟨_, rfl⟩
    have HPI' : Hid (Calls Tryd.prog 21 #[.string s] X fun e w' => e = .returned (.func (.func 32) #[] #[.pointer (some ⟨X.heap.size, 0, none⟩)]) ∧ Y = w') := by rw [← hY, ← hs]; exact HPI.out
    have HPS' : Hid (SeqR Tryd.prog KpE encS Y 32 #[.pointer (some ⟨X.heap.size, 0, none⟩)] L) := by rw [← hY, ← hs]; exact HPS.out
    have hbY : Below X.heap.size X Y := by rw [← hY]; exact (Below.refl _ X).alloc (Nat.le_refl _) _
    have HYY : Hid (Below w.heap.size w Y ∧ Blk Y rb 4 #[.bool false] ∧ w.heap.size ≤ Y.heap.size) := ⟨below_step hbX (Nat.le_refl _) hbY, k1.below hbY k1.lt, Nat.le_trans hbX.size hbY.size⟩
    rw [hs] at i1 i2 hl ⊢
    clear hX hrb hbX k1 hE hrg HPI HPS hY hs hL hg hbY HGD HSZ hlen
    refine (callsIn_wide (n := 3)).1 ?_
    refine callsIn_of_wp_marks Tryd.func8 rfl trivial ?_ rfl
    simp only [Tryd.ntmps8, List.size_toArray, List.length_cons, List.length_nil, Nat.reduceAdd, Nat.reduceSub, Array.replicate_succ, Array.replicate_zero, List.push_toArray, List.append_toArray, List.nil_append, List.cons_append]
    gi_wp2_with fail
    rw [HXE.out, HRB.out]
    refine ⟨trivial, ?_⟩
    refine (callsIn_wide.2 HPI'.out).mono ?_
    rintro e w2 ⟨rfl, rfl⟩
    gi_wp2_with fail
    refine wpIn_rangeR (by decide) (gf := 32) rfl pieces_enters HPS'.out (fun h k => KpE.trans h k) (fun W k o o' hk hc _ => KpE.put o' hk hc) (Below.refl _ _) (fun _ => rfl)
      (contP (fun _ t => !t.isEmpty) L) (fun rest V => (∃ pre, L = pre ++ rest) ∧ Blk V rb 4 #[.bool false] ∧ Below w.heap.size w V) (fun c V => c = .ret ∧ Blk V rb 4 #[.bool false] ∧ Below w.heap.size w V) ?own ?ownx ⟨⟨[], rfl⟩, HYY.out.2.1, HYY.out.1⟩ ?a1 ?assign ?body ?done ?stop
    case own =>
      rintro rest A A' row ⟨e1, e3, e5⟩ hg hr
      have hf : Free A A' := ⟨row, hg, fun r e => (hr r e).2⟩
      exact ⟨e1, hf.blk e3, below_free e5 (Nat.le_refl _) hg (fun r e => Nat.le_trans HYY.out.2.2 (hr r e).1)⟩
    case ownx =>
      rintro c A A' row ⟨e1, e3, e5⟩ hg hr
      have hf : Free A A' := ⟨row, hg, fun r e => (hr r e).2⟩
      exact ⟨e1, hf.blk e3, below_free e5 (Nat.le_refl _) hg (fun r e => Nat.le_trans HYY.out.2.2 (hr r e).1)⟩
    case assign =>
      intro lp x V K hK
      simp only [encS]
      gi_wp2
      exact hK
    case body =>
      rintro lp x rest V ⟨⟨pre, e1⟩, e3, e5⟩
      have hc : contP (fun _ t => !t.isEmpty) L rest = !x.isEmpty := by rw [e1]; exact contP_at _ _ _ _
      rw [hc]
      have HE1 : Hid (∃ pre, L = pre ++ rest) := ⟨pre ++ [x], by rw [e1]; simp⟩
      have HE3 := Lib.hid e3
      have HE5 := Lib.hid e5
      have c1 : V.cell? ⟨rb, 0, none⟩ = some (.bool false) := (e3.cl 0 _ rfl).1
      have c1f : V.frozen? ⟨rb, 0, none⟩ = false := (e3.cl 0 _ rfl).2
      have hq : (B x).toList.isEmpty = x.isEmpty := by rw [Lib.toList_data]
      have hq1 : ((B x).toList == []) = x.isEmpty := by rw [eq_lit]; cases x <;> rfl
      obtain ⟨xe, hxe⟩ : ∃ xe, x.isEmpty = xe := ⟨_, rfl⟩
      rw [hxe] at hq hq1 ⊢
      obtain ⟨xb, hxb⟩ : ∃ xb, B x = xb := ⟨_, rfl⟩
      have HXB := Lib.hid hxb
      rw [hxb] at hq hq1
      show Code.wpIn _ _ _ _ _ { tmps := #[_, _, _, .string (B x), _, _, _, _, _, _, _, _, _, _, _, _, _], defers := _ } _
      rw [HXB.out]
      clear e1 e3 e5 hc hxe hxb HXB
      cases xe with
      | true =>
        have HFIN : Hid (KeepsOthers V (V.setCell ⟨rb, 0, none⟩ (.bool false)) ∧ KpE V (V.setCell ⟨rb, 0, none⟩ (.bool false)) ∧ Blk (V.setCell ⟨rb, 0, none⟩ (.bool false)) rb 4 #[.bool false] ∧ Below w.heap.size w (V.setCell ⟨rb, 0, none⟩ (.bool false))) :=
          ⟨KeepsOthers.setCell _ _ _, KpE.set HRG.out 0 _, HE3.out.set 0 _, HE5.out.setCell (p := ⟨rb, 0, none⟩) (by rw [HRB.out]; exact Nat.le_refl _) _⟩
        gi_wp2
        exact ⟨HFIN.out.1, HFIN.out.2.1, rfl, rfl, HFIN.out.2.2.1, HFIN.out.2.2.2⟩
      | false =>
        gi_wp2
        exact ⟨KeepsOthers.refl _, KpE.refl _, rfl, HE1.out, HE3.out, HE5.out⟩
    case done =>
      rintro D V hD hrun ⟨e1, e3, e5⟩ hK
      have HR : Hid (g = true) := HRUN.out.symm.trans hrun
      have HM : Hid (Marks w.heap.size [D] V) := (Marks.nil _ _).cons (Nat.le_trans HYY.out.2.2 hD) hK (by simp)
      have c1 : V.cell? ⟨rb, 0, none⟩ = some (.bool false) := (e3.cl 0 _ rfl).1
      have c1f := (e3.cl 0 _ rfl).2
      have HV : Hid (Blk (V.setCell ⟨rb, 0, none⟩ (.bool true)) rb 4 #[.bool true] ∧ Below w.heap.size w (V.setCell ⟨rb, 0, none⟩ (.bool true)) ∧ Marks w.heap.size [D] (V.setCell ⟨rb, 0, none⟩ (.bool true))) := ⟨e3.set 0 _, e5.setCell (p := ⟨rb, 0, none⟩) (by rw [HRB.out]; exact Nat.le_refl _) _, HM.out.set e3 0 _⟩
      clear e1 e3 e5 hK hrun
      gi_wp2
      exact leaves_marks [D] _ HV.out.2.2 fun W' hs => ⟨_, results_good W' rb _ true (hs.2 _ _ _ HV.out.1) rfl, by rw [HR.out], HV.out.2.1.trans hs.1⟩
    case stop =>
      rintro D c V hD hrun ⟨rfl, e3, e5⟩ hK
      have HR : Hid (g = false) := HRUN.out.symm.trans hrun
      have HM : Hid (Marks w.heap.size [D] V) := (Marks.nil _ _).cons (Nat.le_trans HYY.out.2.2 hD) hK (by simp)
      have HE3 := Lib.hid e3
      have HE5 := Lib.hid e5
      clear e3 e5 hK hrun
      gi_wp2
      exact leaves_marks [D] _ HM.out fun W' hs => ⟨_, results_good W' rb _ false (hs.2 _ _ _ HE3.out) rfl, by rw [HR.out], HE5.out.trans hs.1⟩
  · have hgf : goodP l = false := by
      rw [HGD.out]
      by_cases h1 : 1 ≤ l.length
      · rw [decide_eq_false (fun h2 => hlen ⟨h1, h2⟩), Bool.and_false, Bool.false_and]
      · rw [decide_eq_false h1, Bool.false_and, Bool.false_and]
    rw [hgf]
    have HFIN : Hid (Blk (X.setCell ⟨rb, 0, none⟩ (.bool false)) rb 4 #[.bool false] ∧ Below w.heap.size w (X.setCell ⟨rb, 0, none⟩ (.bool false))) := ⟨k1.set 0 _, hbX.setCell (p := ⟨rb, 0, none⟩) (by rw [hrb]; exact Nat.le_refl _) _⟩
    have hsz := HSZ.out
    obtain ⟨s, hs⟩ : ∃ s, B l = s := ⟨_, rfl⟩
    rw [hs] at hsz hl ⊢
    by_cases h1 : 1 ≤ l.length
    · have i1 : ¬ (s.size : Int) < 1 := by omega
      have i2 : (40 : Int) < (s.size : Int) := by have : ¬ l.length ≤ 40 := fun h2 => hlen ⟨h1, h2⟩; omega
      clear hbX k1 hE hrg hs HGD HSZ hlen hgf hsz h1 HX0
      refine (callsIn_wide (n := 3)).1 ?_
      refine callsIn_of_wp_marks Tryd.func8 rfl trivial ?_ rfl
      simp only [Tryd.ntmps8, List.size_toArray, List.length_cons, List.length_nil, Nat.reduceAdd, Nat.reduceSub, Array.replicate_succ, Array.replicate_zero, List.push_toArray, List.append_toArray, List.nil_append, List.cons_append]
      gi_wp2
      exact leaves_marks [] _ (Marks.nil w.heap.size _) fun W' hs => ⟨_, results_good W' rb _ false (hs.2 _ _ _ HFIN.out.1) rfl, rfl, (by first | exact HFIN.out.2.trans hs.1 | (have := HFIN.out.2.trans hs.1; rwa [hrb] at this))⟩
    · have i1 : (s.size : Int) < 1 := by omega
      clear hbX k1 hE hrg hs HGD HSZ hlen hgf hsz h1 HX0
      refine (callsIn_wide (n := 3)).1 ?_
      refine callsIn_of_wp_marks Tryd.func8 rfl trivial ?_ rfl
      simp only [Tryd.ntmps8, List.size_toArray, List.length_cons, List.length_nil, Nat.reduceAdd, Nat.reduceSub, Array.replicate_succ, Array.replicate_zero, List.push_toArray, List.append_toArray, List.nil_append, List.cons_append]
      gi_wp2
      exact leaves_marks [] _ (Marks.nil w.heap.size _) fun W' hs => ⟨_, results_good W' rb _ false (hs.2 _ _ _ HFIN.out.1) rfl, rfl, (by first | exact HFIN.out.2.trans hs.1 | (have := HFIN.out.2.trans hs.1; rwa [hrb] at this))⟩
/-- of what is no pattern, nothing is gone through -/
theorem good_plain (l : List UInt8) (h : goodP l = true) : 1 ≤ l.length ∧ l.length ≤ 40 := (good_toks h).2.2
set_option maxHeartbeats 1000000 in
theorem containsAny_lib (l : List UInt8) (w : World) (h : goodP l = true) :
    Calls Tryd.prog 24 #[.string (B l), .string ⟨#[42, 63, 123]⟩] w fun e w' => e = .returned (.bool (Lib.containsAny l [42, 63, 123])) ∧ Below w.heap.size w w' :=
  Tryd.strings_ContainsAny_laid (B l) ⟨#[42, 63, 123]⟩ w (by have := (good_plain l h).2; rw [B_size]; omega) (by decide) (fun j b hb => good_ascii h b (List.mem_of_getElem? hb)) (ascii_of_all (by decide))
set_option maxHeartbeats 1000000 in
theorem plainP_any (l : List UInt8) (w : World) (hE : EnvC w) (hl : (B l).size ≤ maxLen) :
    Calls Tryd.prog 10 #[.string (B l)] w fun e w' => e = .returned (.bool (plainL l && decide (l.length ≤ 40))) ∧ Below w.heap.size w w' := by
  have HG := Lib.hid (good_any l w hE hl)
  have HC := fun h w => Lib.hid (containsAny_lib l w h)
  have HN : Hid ((plainL l && decide (l.length ≤ 40)) = (goodP l && !Lib.containsAny l [42, 63, 123])) := (plain_same l).symm
  generalize (plainL l && decide (l.length ≤ 40)) = r at HN ⊢
  obtain ⟨s, hs⟩ : ∃ s, B l = s := ⟨_, rfl⟩
  rw [hs] at HG ⊢
  simp only [hs] at HC
  generalize Lib.containsAny l [42, 63, 123] = ca at HC HN
  obtain rfl := HN.out
  clear hs hl hE HN
  obtain ⟨g, hg⟩ : ∃ g, goodP l = g := ⟨_, rfl⟩
  rw [hg] at HG HC ⊢
  clear hg
  cases g with
  | false =>
    go_enter Tryd.func10, Tryd.ntmps10
    go_wp2_with fail
    refine HG.out.mono ?_
    rintro e w1 ⟨rfl, hb⟩
    have HB := Lib.hid hb
    clear hb HC
    go_wp2
    go_ret
    exact ⟨rfl, HB.out⟩
  | true =>
    have HC' := fun w => HC rfl w
    clear HC
    go_enter Tryd.func10, Tryd.ntmps10
    go_wp2_with fail
    refine HG.out.mono ?_
    rintro e w1 ⟨rfl, hb⟩
    have HB := Lib.hid hb
    clear hb
    go_wp2_with fail
    refine (HC' _).out.mono ?_
    rintro e w2 ⟨rfl, hb⟩
    have HB2 := Lib.hid (below_step HB.out (Nat.le_refl _) hb)
    clear hb HC'
    go_wp2
    go_ret
    exact ⟨rfl, HB2.out⟩
set_option maxHeartbeats 1000000 in
theorem tokens_any (l : List UInt8) (w : World) (hE : EnvC w) (hg : goodP l = true) :
    Calls Tryd.prog 14 #[.string (B l)] w fun e w' => ∃ lb, e = .returned (.func (.func 32) #[] lb) ∧ Below w.heap.size w w' ∧ SeqR Tryd.prog KpE encS w' 32 lb (pcs l) := by
  have hll := (good_plain l hg).2
  have HG := Lib.hid (good_any l w hE (small_max (by omega)))
  rw [hg] at HG
  have HP := fun w => Lib.hid (pieces_any (B l) w)
  have HS := fun w hE => Lib.hid (pieces_seq l w hE (by omega))
  have HE := Lib.hid hE
  obtain ⟨s, hs⟩ : ∃ s, B l = s := ⟨_, rfl⟩
  rw [hs] at HG ⊢
  simp only [hs] at HP
  have HSS := Lib.hid hs
  clear hs hE hll hg
  go_enter Tryd.func14, Tryd.ntmps14
  go_wp2_with fail
  refine HG.out.mono ?_
  rintro e w1 ⟨rfl, hb⟩
  have HB := Lib.hid hb
  have HS1 := (HS w1 (HE.out.below hb))
  clear hb HS
  go_wp2_with fail
  refine (HP _).out.mono ?_
  rintro e w2 ⟨rfl, hw2⟩
  have HB2 : Hid (Below w.heap.size w w2) := below_step HB.out (Nat.le_refl _) (by rw [← hw2]; exact (Below.refl _ w1).alloc (Nat.le_refl _) _)
  have HS2 : Hid (SeqR Tryd.prog KpE encS w2 32 #[.pointer (some ⟨w1.heap.size, 0, none⟩)] (pcs l)) := by
    have := HS1.out
    show SeqR _ _ _ _ _ _ _
    rw [← hw2, ← HSS.out]
    exact this
  clear hw2 HS1
  go_wp2
  go_ret
  exact ⟨_, rfl, HB2.out, HS2.out⟩
end Gb
end Go.Proofs.YtljcnnigpfclkaaDoor
