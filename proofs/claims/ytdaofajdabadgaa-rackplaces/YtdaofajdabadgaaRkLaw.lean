
/- What the laws of layer 5 call: New, few, turned, start, goes. -/
import Derived.Test.YtdaofajdabadgaaRkSIter
import Derived.Test.YtdaofajdabadgaaRkRefPut
import Derived.Test.YtdaofajdabadgaaRkAwake
namespace Go.Proofs.Ytdaofajdabadgaa
open Go.RowKit
namespace Rk
theorem alloc_sz (w : World) (o : Obj) : (w.alloc o).heap.size = w.heap.size + 1 := by simp
attribute [local go_sem ↓] appE_eq
set_option maxRecDepth 100000 in
theorem lawNew_any (w : World) : Calls Try.prog 8 #[] w fun e w' => e = .returned (.pointer (some ⟨w.heap.size, 0, none⟩)) ∧ RakS w' w.heap.size .nil ∧ Below w.heap.size w w' := by
  have HN := Lib.hid (new_S w)
  go_enter Try.func8, Try.ntmps8
  go_wp2_with fail
  refine HN.out.mono ?_
  rintro e w1 ⟨rfl, hR, hb⟩
  go_wp2
  go_ret
  exact ⟨rfl, hR, hb⟩
set_option maxRecDepth 100000 in
theorem start_any (a : Option Addr) (n c : Nat) (l : List Ent) (key : ByteArray) (w : World) (hl : Fit l) (hk : key.size ≤ maxLen) (h : EsE w (.slice a n c) l) :
    Calls Try.prog 24 #[.slice a n c, .string key] w fun e w' => e = .returned (.int .i64 ((rkL cS key l : Nat) : Int)) ∧ Dr w w' := by
  have HF := Lib.hid (find_any a n c l key w hl hk h)
  clear h hl
  go_enter Try.func24, Try.ntmps24
  go_wp2_with fail
  refine HF.out.mono ?_
  rintro e w1 ⟨rfl, hdr⟩
  go_wp2
  go_ret
  exact ⟨rfl, hdr⟩
set_option maxRecDepth 100000 in
set_option maxHeartbeats 2000000 in
theorem turned_any (a : Option Addr) (n c : Nat) (l : List Ent) (w : World) (hl : l.length ≤ 1000) (h : EsE w (.slice a n c) l) :
    Calls Try.prog 22 #[.slice a n c] w fun e w' => ∃ x', e = .returned x' ∧ EsE w' x' l.reverse ∧ Below w.heap.size w w' := by
  have hnl : n = l.length := by obtain ⟨a', c', he, _⟩ := h; injection he
  have HNL := Lib.hid hnl
  have hn : n ≤ 1000 := by omega
  have HE := Lib.hid h
  clear hnl h
  go_enter Try.func22, Try.ntmps22
  go_wp2
  go_loopw [3, 4] (fun ov iv wr => ∃ j : Nat, j ≤ n ∧ iv = .int .i64 ((j : Int) - 1) ∧ Hid (OwnE wr w.heap.size ov (l.drop j).reverse ∧ Below w.heap.size w wr)) (fun _ iv _ => (intOf iv + 1).toNat)
  case atStart => exact ⟨n, Nat.le_refl _, rfl, Lib.hid ⟨by rw [HNL.out, List.drop_length]; exact World.ownsRow_nil _ _ _ _, Below.refl _ _⟩⟩
  case round =>
    obtain ⟨j, hj, rfl, HREL⟩ := hrel
    cases j with
    | zero =>
      have HO := Lib.hid HREL.out.1.es
      have HB := Lib.hid HREL.out.2
      clear HREL
      go_wp2
      go_ret
      exact ⟨_, rfl, HO.out, HB.out⟩
    | succ j =>
      have hlj : j < l.length := by have := HNL.out; omega
      have hb := HREL.out.2
      obtain ⟨a', c', he, hc, hg⟩ := (HE.out.below hb).get layE.len
      injection he with e1 e2 e3
      subst e1 e3
      obtain ⟨b, o, rfl, hcell⟩ := hg (by omega)
      have c0 : wr.cell? ⟨b, o + j * 2, none⟩ = some (.string l[j].1) := hcell j hlj 0 _ (by decide) rfl
      have c1 : wr.cell? ⟨b, o + j * 2 + 1, none⟩ = some (.int .i64 l[j].2) := hcell j hlj 1 _ (by decide) rfl
      have bB : Below w.heap.size w (wr.alloc (.cells #[.string l[j].1, .int .i64 l[j].2] 38)) := hb.alloc hb.size _
      obtain ⟨v2, W2, r2, o2, b2⟩ := appE_step bB (ownE_alloc HREL.out.1 _) (srcE_new wr l[j]) (by rw [List.length_reverse, List.length_drop]; simp; omega)
      have HN2 : Hid (OwnE W2 w.heap.size v2 (l.drop j).reverse ∧ Below w.heap.size w W2) := ⟨by rw [List.drop_eq_getElem_cons hlj, List.reverse_cons]; exact o2, b2⟩
      have hjn : j < n := by omega
      have hij : ((j + 1 : Nat) : Int) - 1 = (j : Int) := by omega
      rw [hij]
      generalize l[j].1 = kk at c0 r2
      generalize l[j].2 = vv at c1 r2
      clear HREL hb hg hc hcell bB o2 b2 hlj hij
      go_wp2
      go_roundw
      case rel => exact ⟨j, by omega, rfl, HN2⟩
      case measure => simp [intOf]
/-- what goes keeps, behind k entries -/
structure GoS (w : World) (qo qn ql qm : Nat) (sl : Value) (most : Int) (k : Nat) (W : World) : Prop where
  ok : Blk W qo 4 #[.bool true]
  n : Blk W qn 3 #[.int .i64 (k : Int)]
  l : Blk W ql 27 #[sl]
  m : Blk W qm 3 #[.int .i64 most]
  ne : qn ≠ qm
  lo : w.heap.size ≤ qo
  ln : w.heap.size ≤ qn
  b : Below w.heap.size w W
set_option maxRecDepth 100000 in
set_option maxHeartbeats 4000000 in
theorem goes1_any (w : World) (qo qn ql qm : Nat) (a : Option Addr) (n c : Nat) (l : List Ent) (most : Int) (k : Nat) (W : World) (hl : l.length ≤ 1000) (hs : EsE w (.slice a n c) l) (hk : k < l.length) (h : GoS w qo qn ql qm (.slice a n c) most k W) :
    Calls Try.prog 47 (#[.string l[k].1, .int .i64 l[k].2] ++ #[.pointer (some ⟨qo, 0, none⟩), .pointer (some ⟨qn, 0, none⟩), .pointer (some ⟨ql, 0, none⟩), .pointer (some ⟨qm, 0, none⟩)]) W fun e W' => e = .returned (.bool (decide ((k : Int) + 1 < most))) ∧ GoS w qo qn ql qm (.slice a n c) most (k + 1) W' ∧ Keeps 77 W W' := by
  obtain ⟨a', c', he, hc, hg⟩ := (hs.below h.b).get layE.len
  injection he with e1 e2 e3
  subst e1 e3
  obtain ⟨b, o, rfl, hcell⟩ := hg (by omega)
  have c0 : W.cell? ⟨b, o + k * 2, none⟩ = some (.string l[k].1) := hcell k hk 0 _ (by decide) rfl
  have c1 : W.cell? ⟨b, o + k * 2 + 1, none⟩ = some (.int .i64 l[k].2) := hcell k hk 1 _ (by decide) rfl
  have hkn : k < n := by omega
  have hn : n ≤ 1000 := by omega
  have d0 := (h.ok.cl 0 _ rfl).1
  have f0 := (h.ok.cl 0 _ rfl).2
  have d1 := (h.n.cl 0 _ rfl).1
  have d2 := (h.l.cl 0 _ rfl).1
  have no1 : qo ≠ qn := h.ok.apart h.n (by decide)
  have no2 : qo ≠ ql := h.ok.apart h.l (by decide)
  have no3 : qo ≠ qm := h.ok.apart h.m (by decide)
  have nl1 : qn ≠ ql := h.n.apart h.l (by decide)
  have k0 := h.ok.set 0 (.bool true)
  have k1 := h.n.other (p := ⟨qo, 0, none⟩) no1 (.bool true)
  have k2 := h.l.other (p := ⟨qo, 0, none⟩) no2 (.bool true)
  have k3 := h.m.other (p := ⟨qo, 0, none⟩) no3 (.bool true)
  have m0 := k0.other (p := ⟨qn, 0, none⟩) (Ne.symm no1) (.int .i64 ((k : Int) + 1))
  have m1 := k1.set 0 (.int .i64 ((k : Int) + 1))
  have m2 := k2.other (p := ⟨qn, 0, none⟩) nl1 (.int .i64 ((k : Int) + 1))
  have m3 := k3.other (p := ⟨qn, 0, none⟩) h.ne (.int .i64 ((k : Int) + 1))
  have d1k : (W.setCell ⟨qo, 0, none⟩ (.bool true)).cell? ⟨qn, 0, none⟩ = some (.int .i64 (k : Int)) := (k1.cl 0 _ rfl).1
  have f1k := (k1.cl 0 _ rfl).2
  have d0m : ((W.setCell ⟨qo, 0, none⟩ (.bool true)).setCell ⟨qn, 0, none⟩ (.int .i64 ((k : Int) + 1))).cell? ⟨qo, 0, none⟩ = some (.bool true) := (m0.cl 0 _ rfl).1
  have d1m : ((W.setCell ⟨qo, 0, none⟩ (.bool true)).setCell ⟨qn, 0, none⟩ (.int .i64 ((k : Int) + 1))).cell? ⟨qn, 0, none⟩ = some (.int .i64 ((k : Int) + 1)) := (m1.cl 0 _ rfl).1
  have d3m : ((W.setCell ⟨qo, 0, none⟩ (.bool true)).setCell ⟨qn, 0, none⟩ (.int .i64 ((k : Int) + 1))).cell? ⟨qm, 0, none⟩ = some (.int .i64 most) := (m3.cl 0 _ rfl).1
  have hkk : ((k + 1 : Nat) : Int) = (k : Int) + 1 := by omega
  have HFIN : Hid (GoS w qo qn ql qm (.slice (some ⟨b, o, none⟩) n c) most (k + 1) ((W.setCell ⟨qo, 0, none⟩ (.bool true)).setCell ⟨qn, 0, none⟩ (.int .i64 ((k : Int) + 1))) ∧ Keeps 77 W ((W.setCell ⟨qo, 0, none⟩ (.bool true)).setCell ⟨qn, 0, none⟩ (.int .i64 ((k : Int) + 1)))) :=
    ⟨⟨m0, by rw [hkk]; exact m1, m2, m3, h.ne, h.lo, h.ln, grown_out (grown_out h.b h.lo (grown_set W qo 0 _)) h.ln (grown_set _ qn 0 _)⟩, (Keeps.set h.ok (by decide) 0 _).trans (Keeps.set k1 (by decide) 0 _)⟩
  generalize l[k].1 = kk at c0
  generalize l[k].2 = vv at c1
  have hpp : (kk.toList == kk.toList) = true := by simp
  clear hs h hg hcell k0 k1 k2 k3 m0 m1 m2 m3 no1 no2 no3 nl1 hkk hc hk
  go_enter Try.func47, Try.ntmps47
  go_wp2
  go_ret
  exact ⟨by simp, HFIN.out⟩
/-- does goes ask for more, with so many left? -/
def goC (len : Nat) (most : Int) (rest : List Ent) : Bool := decide ((len : Int) - (rest.length : Int) < most)
/-- behind what it was given: so much is left -/
def GoJ (w : World) (qo qn ql qm : Nat) (sl : Value) (l : List Ent) (most : Int) (rem : List Ent) (W : World) : Prop := ∃ pre, pre ++ rem = l ∧ (pre = [] ∨ (pre.length : Int) < most) ∧ GoS w qo qn ql qm sl most pre.length W
/-- it asks for no more -/
def GoX (w : World) (qo qn ql qm : Nat) (sl : Value) (l : List Ent) (most : Int) (W : World) : Prop := ∃ k : Nat, k + 1 ≤ l.length ∧ ¬ ((k : Int) + 1 < most) ∧ (k = 0 ∨ (k : Int) < most) ∧ GoS w qo qn ql qm sl most (k + 1) W
set_option maxRecDepth 100000 in
set_option maxHeartbeats 4000000 in
theorem goes_any (f : Value) (a : Option Addr) (n c : Nat) (l : List Ent) (most : Int) (w : World) (hl : l.length ≤ 1000) (hs : EsE w (.slice a n c) l) (hf : SeqS w f l) (hm : -1000000 ≤ most ∧ most ≤ 1000000) :
    Calls Try.prog 19 #[f, .slice a n c, .int .i64 most] w fun e w' => e = .returned (.bool true) ∧ Below w.heap.size w w' := by
  have hnl : n = l.length := by obtain ⟨a', c', he, _⟩ := hs; injection he
  have HNL := Lib.hid hnl
  have hn : n ≤ 1000 := by omega
  obtain ⟨gf, lbf, rfl, eg, hseq⟩ := hf
  have HC : Hid (∃ W4, (((w.alloc (.cells #[.slice a n c] 27)).alloc (.cells #[.int .i64 most] 3)).alloc (.cells #[.int .i64 0] 3)).alloc (.cells #[.bool true] 4) = W4 ∧
      Calls Try.prog gf (#[.func (.func 47) #[] #[.pointer (some ⟨w.heap.size + 1 + 1 + 1, 0, none⟩), .pointer (some ⟨w.heap.size + 1 + 1, 0, none⟩), .pointer (some ⟨w.heap.size, 0, none⟩), .pointer (some ⟨w.heap.size + 1, 0, none⟩)]] ++ lbf) W4
        fun e W' => (∃ v, e = .returned v) ∧ ∃ k : Nat, k ≤ n ∧ (k : Int) = min (n : Int) (max most 1) ∧ GoS w (w.heap.size + 1 + 1 + 1) (w.heap.size + 1 + 1) w.heap.size (w.heap.size + 1) (.slice a n c) most k W') := by
    refine ⟨_, rfl, ?_⟩
    have hb1 : Below w.heap.size w (w.alloc (.cells #[.slice a n c] 27)) := (Below.refl _ _).alloc (Nat.le_refl _) _
    have hb2 := hb1.alloc hb1.size (.cells #[.int .i64 most] 3)
    have hb3 := hb2.alloc hb2.size (.cells #[.int .i64 0] 3)
    have hb4 := hb3.alloc hb3.size (.cells #[.bool true] 4)
    have k1 := (((Blk.new w 27 #[.slice a n c]).alloc (.cells #[.int .i64 most] 3)).alloc (.cells #[.int .i64 0] 3)).alloc (.cells #[.bool true] 4)
    have k2 := ((Blk.new (w.alloc (.cells #[.slice a n c] 27)) 3 #[.int .i64 most]).alloc (.cells #[.int .i64 0] 3)).alloc (.cells #[.bool true] 4)
    have k3 := (Blk.new ((w.alloc (.cells #[.slice a n c] 27)).alloc (.cells #[.int .i64 most] 3)) 3 #[.int .i64 0]).alloc (.cells #[.bool true] 4)
    have k4 := Blk.new (((w.alloc (.cells #[.slice a n c] 27)).alloc (.cells #[.int .i64 most] 3)).alloc (.cells #[.int .i64 0] 3)) 4 #[.bool true]
    simp only [alloc_sz] at k2 k3 k4
    have g0 : GoS w (w.heap.size + 1 + 1 + 1) (w.heap.size + 1 + 1) w.heap.size (w.heap.size + 1) (.slice a n c) most 0 ((((w.alloc (.cells #[.slice a n c] 27)).alloc (.cells #[.int .i64 most] 3)).alloc (.cells #[.int .i64 0] 3)).alloc (.cells #[.bool true] 4)) :=
      ⟨k4, k3, k1, k2, by omega, by omega, by omega, hb4⟩
    refine (hseq 47 _ (fun args w => by kernel_rfl) (goC l.length most) (GoJ w (w.heap.size + 1 + 1 + 1) (w.heap.size + 1 + 1) w.heap.size (w.heap.size + 1) (.slice a n c) l most) (GoX w (w.heap.size + 1 + 1 + 1) (w.heap.size + 1 + 1) w.heap.size (w.heap.size + 1) (.slice a n c) l most)
      (fun r A hA => ?_) (fun x rest W hJ => ?_) _ hb4 ⟨[], rfl, .inl rfl, g0⟩).mono ?_
    · obtain ⟨pre, h1, h2, h3⟩ := hA
      exact ⟨pre, h1, h2, ⟨h3.ok, h3.n, h3.l, h3.m, h3.ne, h3.lo, h3.ln, below_dr h3.b⟩⟩
    · obtain ⟨pre, h1, h2, h3⟩ := hJ
      have hpl : pre.length < l.length := by rw [← h1]; simp
      have hget : l[pre.length] = x := by simp [← h1]
      have := goes1_any w _ _ _ _ a n c l most pre.length W hl hs hpl h3
      rw [hget] at this
      refine this.mono fun e W' ⟨he, hg, hk⟩ => ?_
      have hlen : l.length = pre.length + (rest.length + 1) := by rw [← h1]; simp
      have hcc : goC l.length most rest = decide ((pre.length : Int) + 1 < most) := by unfold goC; exact decide_eq_decide.2 (by omega)
      rw [hcc]
      refine ⟨he, ⟨fun ht => ⟨pre ++ [x], by simp [h1], .inr ?_, ?_⟩, fun hf => ⟨pre.length, by omega, of_decide_eq_false hf, ?_, hg⟩⟩, hk⟩
      · have := of_decide_eq_true ht; simp; omega
      · rw [List.length_append]; exact hg
      · rcases h2 with h2 | h2
        · left; rw [h2]; rfl
        · exact .inr h2
    · rintro e W' ⟨hv, ⟨h1, h2⟩, -⟩
      refine ⟨hv, ?_⟩
      cases hr : run (goC l.length most) l [] with
      | true =>
        obtain ⟨pre, e1, e2, e3⟩ := h1 hr
        rw [List.append_nil] at e1
        subst e1
        refine ⟨pre.length, by omega, ?_, e3⟩
        rcases e2 with e2 | e2
        · have h0 : pre.length = 0 := by rw [e2]; rfl
          omega
        · omega
      | false =>
        obtain ⟨k, e1, e2, e3, e4⟩ := h2 hr
        exact ⟨k + 1, by omega, by omega, e4⟩
  obtain ⟨W4, hW4, HCL⟩ := HC.out
  have HCL := Lib.hid HCL
  clear HC hs hseq hnl
  go_enter Try.func19, Try.ntmps19
  go_wp2_with fail
  refine HCL.out.mono ?_
  rintro e W5 ⟨⟨v, rfl⟩, k, hk1, hk2, hg⟩
  have d0 := (hg.ok.cl 0 _ rfl).1
  have d1 := (hg.n.cl 0 _ rfl).1
  have d2 := (hg.l.cl 0 _ rfl).1
  have d3 := (hg.m.cl 0 _ rfl).1
  have HB := Lib.hid hg.b
  rw [hk2] at d1
  clear hg HCL hW4 hk2
  go_wp2
  go_ret
  exact ⟨by simp, HB.out⟩
end Rk
end Go.Proofs.Ytdaofajdabadgaa
