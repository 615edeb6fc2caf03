
/- What package glob's Those goes through, where the law's own function asks. -/
import Derived.Test.YtljcnnigpfclkaaDoorGbValues
import Derived.Test.YtljcnnigpfclkaaDoorGbMatch
namespace Go.Proofs.YtljcnnigpfclkaaDoor
open Go.RowKit Go.Shelf
open Dp
attribute [local go_sem] Oper.semAt_some
namespace Gb
/-- what holds as the texts are gone through: cnt were handed on -/
structure ThI (w V0 : World) (bo bn bw bm bf b5 : Nat) (wa : Option Addr) (k wc m : Nat) (clo mat : Value) (cnt : Nat) (W : World) : Prop where
  ok : Blk W bo 4 #[.bool true]
  num : Blk W bn 3 #[.int .i64 (cnt : Int)]
  want : Blk W bw 25 #[.slice wa k wc]
  most : Blk W bm 3 #[.int .i64 (m : Int)]
  fn : Blk W bf 23 #[clo]
  mat : Blk W b5 23 #[mat]
  below : Below w.heap.size w W
  keep : KpS V0 W
section
variable {w V0 W W' : World} {bo bn bw bm bf b5 : Nat} {wa : Option Addr} {k wc m : Nat} {clo mat : Value} {cnt : Nat}
theorem ThI.step (h : ThI w V0 bo bn bw bm bf b5 wa k wc m clo mat cnt W) (hb : Below W.heap.size W W') : ThI w V0 bo bn bw bm bf b5 wa k wc m clo mat cnt W' :=
  ⟨h.ok.below hb h.ok.lt, h.num.below hb h.num.lt, h.want.below hb h.want.lt, h.most.below hb h.most.lt, h.fn.below hb h.fn.lt, h.mat.below hb h.mat.lt, below_step h.below (Nat.le_refl _) hb, h.keep.trans (KpS.below hb)⟩
theorem ThI.free {B : Nat} {row : Option Nat} (h : ThI w V0 bo bn bw bm bf b5 wa k wc m clo mat cnt W) (hB : w.heap.size ≤ B) (hg : W.grownBy W' row) (hr : ∀ r, row = some r → B ≤ r ∧ ∃ o : Obj, W.heap[r]? = some o ∧ o.isCells = false) : ThI w V0 bo bn bw bm bf b5 wa k wc m clo mat cnt W' := by
  have hf : Free W W' := ⟨row, hg, fun r e => (hr r e).2⟩
  exact ⟨hf.blk h.ok, hf.blk h.num, hf.blk h.want, hf.blk h.most, hf.blk h.fn, hf.blk h.mat, below_free h.below (Nat.le_refl _) hg (fun r e => Nat.le_trans hB (hr r e).1), h.keep.trans (KpS.free hf)⟩
theorem ThI.next (h : ThI w V0 bo bn bw bm bf b5 wa k wc m clo mat cnt W) (h1 : w.heap.size ≤ bo) (h2 : w.heap.size ≤ bn) (d : bn ≠ bm) : ThI w V0 bo bn bw bm bf b5 wa k wc m clo mat (cnt + 1) ((W.setCell ⟨bo, 0, none⟩ (.bool true)).setCell ⟨bn, 0, none⟩ (.int .i64 ((cnt : Int) + 1))) := by
  have a1 := h.ok.apart h.num (by decide)
  have a2 := h.ok.apart h.want (by decide)
  have a3 := h.ok.apart h.most (by decide)
  have a4 := h.ok.apart h.fn (by decide)
  have a5 := h.ok.apart h.mat (by decide)
  have c2 := h.num.apart h.want (by decide)
  have c4 := h.num.apart h.fn (by decide)
  have c5 := h.num.apart h.mat (by decide)
  have n1 : Blk (W.setCell ⟨bo, 0, none⟩ (.bool true)) bn 3 #[.int .i64 (cnt : Int)] := h.num.other (p := ⟨bo, 0, none⟩) a1 _
  refine ⟨(h.ok.set 0 _).other (p := ⟨bn, 0, none⟩) (fun e => a1 e.symm) _, n1.set 0 _, (h.want.other (p := ⟨bo, 0, none⟩) a2 _).other (p := ⟨bn, 0, none⟩) c2 _, (h.most.other (p := ⟨bo, 0, none⟩) a3 _).other (p := ⟨bn, 0, none⟩) d _,
    (h.fn.other (p := ⟨bo, 0, none⟩) a4 _).other (p := ⟨bn, 0, none⟩) c4 _, (h.mat.other (p := ⟨bo, 0, none⟩) a5 _).other (p := ⟨bn, 0, none⟩) c5 _, (h.below.setCell (p := ⟨bo, 0, none⟩) h1 _).setCell (p := ⟨bn, 0, none⟩) h2 _, ?_⟩
  exact (h.keep.trans ⟨Rk.Keeps.set h.ok (by decide) 0 _, Rk.Keeps.set h.ok (by decide) 0 _⟩).trans ⟨Rk.Keeps.set n1 (by decide) 0 _, Rk.Keeps.set n1 (by decide) 0 _⟩
end
/-- how many of the first i are matched -/
def cntP (T L : List (List UInt8)) (i : Nat) : Nat := ((L.take i).filter (fun x => MM T x)).length
/-- does a round go on? -/
def goP (T L : List (List UInt8)) (m i : Nat) (x : List UInt8) : Bool := !MM T x || decide (cntP T L i + 1 < m)
theorem cnt_next (T : List (List UInt8)) (pre rest : List (List UInt8)) (x : List UInt8) : cntP T (pre ++ x :: rest) (pre.length + 1) = cntP T (pre ++ x :: rest) pre.length + (if MM T x then 1 else 0) := by
  unfold cntP
  have e1 : (pre ++ x :: rest).take (pre.length + 1) = pre ++ [x] := by
    rw [show pre ++ x :: rest = (pre ++ [x]) ++ rest by simp]
    rw [List.take_left' (by simp)]
  have e2 : (pre ++ x :: rest).take pre.length = pre := List.take_left' rfl
  rw [e1, e2, List.filter_append, List.length_append]
  cases h : MM T x <;> simp [h]
theorem want_at (T : List (List UInt8)) (pre rest : List (List UInt8)) (x : List UInt8) (h : MM T x = true) : ∃ hlt : cntP T (pre ++ x :: rest) pre.length < ((pre ++ x :: rest).filter (fun x => MM T x)).length, ((pre ++ x :: rest).filter (fun x => MM T x))[cntP T (pre ++ x :: rest) pre.length] = x := by
  have e2 : (pre ++ x :: rest).take pre.length = pre := List.take_left' rfl
  have e3 : (pre ++ x :: rest).filter (fun x => MM T x) = pre.filter (fun x => MM T x) ++ x :: rest.filter (fun x => MM T x) := by
    rw [List.filter_append, List.filter_cons, if_pos h]
  unfold cntP
  rw [e2]
  refine ⟨by rw [e3]; simp, ?_⟩
  simp only [e3]
  rw [List.getElem_append_right (Nat.le_refl _)]
  simp
theorem cnt_all (T L : List (List UInt8)) : cntP T L L.length = (L.filter (fun x => MM T x)).length := by unfold cntP; rw [List.take_length]
set_option maxRecDepth 100000 in
set_option maxHeartbeats 4000000 in
theorem those1_any (T L : List (List UInt8)) (w V0 V : World) (hE : EnvC w) (bo bn bw bm b3 b5 bV : Nat) (wa : Option Addr) (wc m : Nat) (hLs : ∀ x ∈ L, x.length ≤ 1000) (hLn : L.length ≤ 100) (lb : Array Value) (hmat : Matcher V0 36 lb T)
    (hES : EsT V0 (.slice wa (L.filter (fun x => MM T x)).length wc) (L.filter (fun x => MM T x)))
    (h1 : w.heap.size ≤ bo) (h2 : w.heap.size ≤ bn) (d : bn ≠ bm) (dV : bo ≠ bV ∧ bn ≠ bV)
    (ok : Blk V bo 4 #[.bool true]) (num : Blk V bn 3 #[.int .i64 0]) (want : Blk V bw 25 #[.slice wa (L.filter (fun x => MM T x)).length wc]) (most : Blk V bm 3 #[.int .i64 (m : Int)])
    (mat : Blk V b5 23 #[.func (.func 36) #[] lb]) (sq : Blk V b3 28 #[.func (.func 31) #[] #[.pointer (some ⟨bV, 0, none⟩)]]) (below : Below w.heap.size w V) (keep : KpS V0 V)
    (hVl : bV < V.heap.size) (a : Option Addr) (c : Nat) (hV : V.cell? ⟨bV, 0, none⟩ = some (.slice a L.length c)) (hat : 0 < L.length → ∃ g o, a = some ⟨g, o, none⟩ ∧ g < w.heap.size ∧ ∀ (j : Nat) (y : List UInt8), L[j]? = some y → V.cell? ⟨g, o + j, none⟩ = some (.string (B y))) :
    Calls Tryd.prog 30 #[.func (.func 20) #[] #[.pointer (some ⟨bo, 0, none⟩), .pointer (some ⟨bn, 0, none⟩), .pointer (some ⟨bw, 0, none⟩), .pointer (some ⟨bm, 0, none⟩)], .pointer (some ⟨b3, 0, none⟩), .pointer (some ⟨b5, 0, none⟩)] V fun e W' =>
      (∃ v, e = .returned v) ∧ Below w.heap.size w W' ∧ Blk W' bo 4 #[.bool true] ∧ Blk W' bn 3 #[.int .i64 ((min (L.filter (fun x => MM T x)).length (max m 1) : Nat) : Int)] ∧ Blk W' bw 25 #[.slice wa (L.filter (fun x => MM T x)).length wc] ∧ Blk W' bm 3 #[.int .i64 (m : Int)] := by
  obtain ⟨K, hK⟩ : ∃ K, (L.filter (fun x => MM T x)).length = K := ⟨_, rfl⟩
  obtain ⟨N, hN⟩ : ∃ N, min K (max m 1) = N := ⟨_, rfl⟩
  have hKL : K ≤ L.length := by rw [← hK]; exact List.length_filter_le _ _
  have HMT := Lib.hid hmat
  have HES := Lib.hid hES
  obtain ⟨bf, hbf⟩ : ∃ bf, V.heap.size = bf := ⟨_, rfl⟩
  obtain ⟨X, hX⟩ : ∃ X, V.alloc (.cells #[Value.func (.func 20) #[] #[.pointer (some ⟨bo, 0, none⟩), .pointer (some ⟨bn, 0, none⟩), .pointer (some ⟨bw, 0, none⟩), .pointer (some ⟨bm, 0, none⟩)]] 23) = X := ⟨_, rfl⟩
  have hbX : Below V.heap.size V X := by rw [← hX]; exact (Below.refl _ V).alloc (Nat.le_refl _) _
  have kf : Blk X bf 23 #[Value.func (.func 20) #[] #[.pointer (some ⟨bo, 0, none⟩), .pointer (some ⟨bn, 0, none⟩), .pointer (some ⟨bw, 0, none⟩), .pointer (some ⟨bm, 0, none⟩)]] := by rw [← hX, ← hbf]; exact Blk.new V _ _
  have c3 : X.cell? ⟨b3, 0, none⟩ = some (.func (.func 31) #[] #[.pointer (some ⟨bV, 0, none⟩)]) := ((sq.below hbX sq.lt).cl 0 _ rfl).1
  have hz0 : cntP T L 0 = 0 := by simp [cntP]
  rw [hK] at want HES
  have HST : Hid (ThI w V0 bo bn bw bm bf b5 wa K wc m (Value.func (.func 20) #[] #[.pointer (some ⟨bo, 0, none⟩), .pointer (some ⟨bn, 0, none⟩), .pointer (some ⟨bw, 0, none⟩), .pointer (some ⟨bm, 0, none⟩)]) (.func (.func 36) #[] lb) (cntP T L 0) X) := by
    refine ⟨ok.below hbX ok.lt, ?_, want.below hbX want.lt, most.below hbX most.lt, kf, mat.below hbX mat.lt, below_step below (Nat.le_refl _) hbX, keep.trans (KpS.below hbX)⟩
    rw [hz0]
    exact num.below hbX num.lt
  have HSQ : Hid (SeqR Tryd.prog (KpL (fun b => b < w.heap.size ∨ b = bV)) encS X 31 #[.pointer (some ⟨bV, 0, none⟩)] L) := fun lp cont J Jx _ hY W hW hJ => by
    have hVX := (hbX.cell (p := ⟨bV, 0, none⟩) hVl).trans hV
    refine values1_any L _ a L.length c rfl (by omega) bV lp cont J Jx hY W ((hW.cell (p := ⟨bV, 0, none⟩) (lt_of_cell hVX)).trans hVX) (fun h0 => ?_) hJ
    obtain ⟨g, o, e, hg, hc⟩ := hat h0
    refine ⟨g, o, e, .inl hg, fun j y hj => ?_⟩
    have h1 := hc j y hj
    have h2 := (hbX.cell (p := ⟨g, o + j, none⟩) (lt_of_cell h1)).trans h1
    exact (hW.cell (p := ⟨g, o + j, none⟩) (lt_of_cell h2)).trans h2
  have HW : Hid (w.heap.size ≤ X.heap.size ∧ EnvC w ∧ w.heap.size ≤ bo ∧ w.heap.size ≤ bn ∧ bn ≠ bm ∧ bo ≠ bV ∧ bn ≠ bV) := ⟨Nat.le_trans below.size hbX.size, hE, h1, h2, d, dV.1, dV.2⟩
  have HLS := Lib.hid hLs
  have HKE := Lib.hid hK
  have HNE := Lib.hid hN
  have HKL := Lib.hid (And.intro hKL hLn)
  rw [hK, hN]
  have eg1 := matcher1_enters
  have eg2 : ∀ args w, (callFunc 20 args).run Tryd.prog w = .ok (.enter 20 args) w := enters_of Tryd.func20 (by kernel_rfl) rfl
  clear hmat hES hbX kf ok num want most mat sq below keep hV hat hE h1 h2 d dV hz0 hLs hK hN hKL hLn hVl
  refine (callsIn_wide (n := 3)).1 ?_
  refine callsIn_of_wp_marks Tryd.func30 rfl trivial ?_ rfl
  simp only [Tryd.ntmps30, List.size_toArray, List.length_cons, List.length_nil, Nat.reduceAdd, Nat.reduceSub, Array.replicate_succ, Array.replicate_zero, List.push_toArray, List.append_toArray, List.nil_append, List.cons_append]
  gi_wp2_with fail
  clear hX hbf
  refine wpIn_rangeR (by decide) (gf := 31) (lbf := #[.pointer (some ⟨bV, 0, none⟩)]) rfl values_enters HSQ.out (fun h k => KpL.trans h k) (fun W k o o' hk hc _ => KpL.put o' hk hc) (Below.refl _ _) (fun _ => rfl)
    (contP (goP T L m) L) (fun rest W => ∃ pre, L = pre ++ rest ∧ ThI w V0 bo bn bw bm bf b5 wa K wc m (Value.func (.func 20) #[] #[.pointer (some ⟨bo, 0, none⟩), .pointer (some ⟨bn, 0, none⟩), .pointer (some ⟨bw, 0, none⟩), .pointer (some ⟨bm, 0, none⟩)]) (.func (.func 36) #[] lb) (cntP T L pre.length) W ∧ (cntP T L pre.length = 0 ∨ cntP T L pre.length < m))
    (fun c W => c = .ret ∧ ThI w V0 bo bn bw bm bf b5 wa K wc m (Value.func (.func 20) #[] #[.pointer (some ⟨bo, 0, none⟩), .pointer (some ⟨bn, 0, none⟩), .pointer (some ⟨bw, 0, none⟩), .pointer (some ⟨bm, 0, none⟩)]) (.func (.func 36) #[] lb) N W) ?own ?ownx ⟨[], rfl, HST.out, .inl (by simp [cntP])⟩ ?a1 ?assign ?body ?done ?stop
  case own =>
    rintro rest A A' row ⟨pre, e1, hI, hc⟩ hg hr
    exact ⟨pre, e1, hI.free HW.out.1 hg hr, hc⟩
  case ownx =>
    rintro c A A' row ⟨e1, hI⟩ hg hr
    exact ⟨e1, hI.free HW.out.1 hg hr⟩
  case assign =>
    intro lp x W K' hK'
    simp only [encS]
    gi_wp2
    exact hK'
  case body =>
    rintro lp x rest W ⟨pre, e1, hI, hc⟩
    have hcP : contP (goP T L m) L rest = goP T L m pre.length x := by rw [e1]; exact contP_at _ _ _ _
    have hxl := HLS.out x (by rw [e1]; simp)
    have HM := Lib.hid (HMT.out x W hxl (HW.out.2.1.below hI.below) hI.keep)
    have c5 : W.cell? ⟨b5, 0, none⟩ = some (.func (.func 36) #[] lb) := (hI.mat.cl 0 _ rfl).1
    have HI := Lib.hid hI
    have HE1 : Hid (L = (pre ++ [x]) ++ rest) := by show _ = _; rw [e1]; simp
    have hcn : cntP T L (pre ++ [x]).length = cntP T L pre.length + (if MM T x then 1 else 0) := by
      rw [List.length_append, List.length_singleton]
      have := cnt_next T pre rest x
      rwa [← e1] at this
    have HC := Lib.hid hc
    obtain ⟨xb, hxb⟩ : ∃ xb, B x = xb := ⟨_, rfl⟩
    have HXB := Lib.hid hxb
    rw [hcP]
    cases hMx : MM T x with
    | false =>
      have HG : Hid (goP T L m pre.length x = true) := by show _ = _; unfold goP; rw [hMx]; rfl
      rw [hMx] at HM hcn
      have HCN : Hid (cntP T L (pre ++ [x]).length = cntP T L pre.length) := hcn
      rw [HG.out]
      rw [hxb] at HM
      show Code.wpIn _ _ _ _ _ { tmps := #[_, _, _, _, .string (B x), _, _, _, _, _, _, _, _, _, _, _], defers := _ } _
      rw [hxb]
      clear hMx hcn hcP e1 hI hxb hc HG
      gi_wp2_with fail
      refine ⟨trivial, ?_⟩
      refine (callsIn_wide.2 HM.out).mono ?_
      rintro e W1 ⟨rfl, hb⟩
      have HFIN : Hid (KeepsOthers W W1 ∧ KpL (fun b => b < w.heap.size ∨ b = bV) W W1 ∧ ∃ pre, L = pre ++ rest ∧ ThI w V0 bo bn bw bm bf b5 wa K wc m (Value.func (.func 20) #[] #[.pointer (some ⟨bo, 0, none⟩), .pointer (some ⟨bn, 0, none⟩), .pointer (some ⟨bw, 0, none⟩), .pointer (some ⟨bm, 0, none⟩)]) (.func (.func 36) #[] lb) (cntP T L pre.length) W1 ∧ (cntP T L pre.length = 0 ∨ cntP T L pre.length < m)) :=
        ⟨others_below hb, KpL.below hb, pre ++ [x], HE1.out, by rw [HCN.out]; exact HI.out.step hb, by rw [HCN.out]; exact HC.out⟩
      clear hb
      gi_wp2
      refine ⟨fun f h => (by cases h), ?_⟩
      gi_wp2
      exact ⟨HFIN.out.1, HFIN.out.2.1, rfl, HFIN.out.2.2⟩
    | true =>
      have hwa := want_at T pre rest x hMx
      rw [← e1] at hwa
      obtain ⟨hlt0, hat0⟩ := hwa
      have HG : Hid (goP T L m pre.length x = decide (cntP T L pre.length + 1 < m)) := by show _ = _; unfold goP; rw [hMx]; rfl
      rw [hMx] at HM hcn
      have HCN : Hid (cntP T L (pre ++ [x]).length = cntP T L pre.length + 1) := hcn
      have HCL : Hid (∀ W1, ThI w V0 bo bn bw bm bf b5 wa K wc m (Value.func (.func 20) #[] #[.pointer (some ⟨bo, 0, none⟩), .pointer (some ⟨bn, 0, none⟩), .pointer (some ⟨bw, 0, none⟩), .pointer (some ⟨bm, 0, none⟩)]) (.func (.func 36) #[] lb) (cntP T L pre.length) W1 → Calls Tryd.prog 20 #[.string (B x), .pointer (some ⟨bo, 0, none⟩), .pointer (some ⟨bn, 0, none⟩), .pointer (some ⟨bw, 0, none⟩), .pointer (some ⟨bm, 0, none⟩)] W1 fun e w' => e = .returned (.bool (decide (cntP T L pre.length + 1 < m))) ∧ (W1.setCell ⟨bo, 0, none⟩ (.bool true)).setCell ⟨bn, 0, none⟩ (.int .i64 ((cntP T L pre.length : Int) + 1)) = w') := fun W1 h => by
        have hk := HKE.out
        have := clos_any (L.filter (fun x => MM T x)) (cntP T L pre.length) m bo bn bw bm wa wc hlt0 (by have := HKL.out; omega) W1 (h.ok.apart h.num (by decide)) (h.ok.apart h.most (by decide)) HW.out.2.2.2.2.1 h.ok h.num (by rw [hk]; exact h.want) h.most (by rw [hk]; exact h.keep.es HES.out)
        rw [hat0] at this
        exact this
      have hnK : cntP T L pre.length < K := by rw [← HKE.out]; exact hlt0
      rw [HG.out]
      generalize cntP T L pre.length = n at HI HC HCN HCL hnK ⊢
      rw [hxb] at HM HCL
      have HNK := Lib.hid hnK
      show Code.wpIn _ _ _ _ _ { tmps := #[_, _, _, _, .string (B x), _, _, _, _, _, _, _, _, _, _, _], defers := _ } _
      rw [hxb]
      obtain ⟨res, hres⟩ : ∃ res, decide (n + 1 < m) = res := ⟨_, rfl⟩
      rw [hres] at HCL ⊢
      have HRES := Lib.hid hres
      clear hMx hcn hcP e1 hI hxb hc HG hlt0 hat0 hnK hres
      gi_wp2_with fail
      refine ⟨trivial, ?_⟩
      refine (callsIn_wide.2 HM.out).mono ?_
      rintro e W1 ⟨rfl, hb⟩
      have HI1 := Lib.hid (HI.out.step hb)
      have cf : W1.cell? ⟨bf, 0, none⟩ = some (Value.func (.func 20) #[] #[.pointer (some ⟨bo, 0, none⟩), .pointer (some ⟨bn, 0, none⟩), .pointer (some ⟨bw, 0, none⟩), .pointer (some ⟨bm, 0, none⟩)]) := (HI1.out.fn.cl 0 _ rfl).1
      have HCL1 := Lib.hid (HCL.out W1 HI1.out)
      obtain ⟨W2, hW2⟩ : ∃ W2, (W1.setCell ⟨bo, 0, none⟩ (.bool true)).setCell ⟨bn, 0, none⟩ (.int .i64 ((n : Int) + 1)) = W2 := ⟨_, rfl⟩
      have HI2 : Hid (ThI w V0 bo bn bw bm bf b5 wa K wc m (Value.func (.func 20) #[] #[.pointer (some ⟨bo, 0, none⟩), .pointer (some ⟨bn, 0, none⟩), .pointer (some ⟨bw, 0, none⟩), .pointer (some ⟨bm, 0, none⟩)]) (.func (.func 36) #[] lb) (n + 1) W2) := by rw [← hW2]; exact HI1.out.next HW.out.2.2.1 HW.out.2.2.2.1 HW.out.2.2.2.2.1
      have HKP : Hid (KeepsOthers W W2 ∧ KpL (fun b => b < w.heap.size ∨ b = bV) W W2) := by
        have hw := HW.out
        refine ⟨?_, ?_⟩
        · rw [← hW2]
          exact ((others_below hb).trans (KeepsOthers.setCell _ _ _)).trans (KeepsOthers.setCell _ _ _)
        · rw [← hW2]
          exact ((KpL.below hb).trans (KpL.set (by rintro (h | h); omega; exact hw.2.2.2.2.2.1 h) 0 _)).trans (KpL.set (by rintro (h | h); omega; exact hw.2.2.2.2.2.2 h) 0 _)
      rw [hW2] at HCL1
      clear hb HCL hW2
      cases res with
      | false =>
        have HNN : Hid (n + 1 = N) := by
          show _ = _
          have h1 := of_decide_eq_false HRES.out
          have h2 := HC.out
          have h3 := HNK.out
          rw [← HNE.out]
          omega
        gi_wp2_with fail
        refine ⟨trivial, ?_⟩
        refine (callsIn_wide.2 HCL1.out).mono ?_
        rintro e W3 ⟨rfl, rfl⟩
        gi_wp2
        exact ⟨HKP.out.1, HKP.out.2, rfl, rfl, by rw [← HNN.out]; exact HI2.out⟩
      | true =>
        have HFIN : Hid (∃ pre, L = pre ++ rest ∧ ThI w V0 bo bn bw bm bf b5 wa K wc m (Value.func (.func 20) #[] #[.pointer (some ⟨bo, 0, none⟩), .pointer (some ⟨bn, 0, none⟩), .pointer (some ⟨bw, 0, none⟩), .pointer (some ⟨bm, 0, none⟩)]) (.func (.func 36) #[] lb) (cntP T L pre.length) W2 ∧ (cntP T L pre.length = 0 ∨ cntP T L pre.length < m)) := ⟨pre ++ [x], HE1.out, by rw [HCN.out]; exact HI2.out, by rw [HCN.out]; exact .inr (of_decide_eq_true HRES.out)⟩
        gi_wp2_with fail
        refine ⟨trivial, ?_⟩
        refine (callsIn_wide.2 HCL1.out).mono ?_
        rintro e W3 ⟨rfl, rfl⟩
        gi_wp2
        exact ⟨HKP.out.1, HKP.out.2, rfl, HFIN.out⟩
  case done =>
    rintro D W hD _ ⟨pre, e1, hI, hc⟩ hK
    have HM : Hid (Marks w.heap.size [D] W) := (Marks.nil _ _).cons (Nat.le_trans HW.out.1 hD) hK (by simp)
    have hpl : pre = L := by rw [e1, List.append_nil]
    have hcK : cntP T L pre.length = K := by rw [hpl, cnt_all]; exact HKE.out
    have hNK : K = N := by rw [← HNE.out]; rw [hcK] at hc; omega
    rw [hcK, hNK] at hI
    have HI := Lib.hid hI
    clear e1 hI hc hK hpl hcK
    gi_wp2
    exact leaves_marks [D] _ HM.out fun W' hs => ⟨_, results_none rfl _ _ _, ⟨_, rfl⟩, HI.out.below.trans hs.1, hs.2 _ _ _ HI.out.ok, hs.2 _ _ _ HI.out.num, by rw [hNK]; exact hs.2 _ _ _ HI.out.want, hs.2 _ _ _ HI.out.most⟩
  case stop =>
    rintro D c W hD _ ⟨rfl, hI⟩ hK
    have HM : Hid (Marks w.heap.size [D] W) := (Marks.nil _ _).cons (Nat.le_trans HW.out.1 hD) hK (by simp)
    have HI := Lib.hid hI
    clear hI hK
    gi_wp2
    exact leaves_marks [D] _ HM.out fun W' hs => ⟨_, results_none rfl _ _ _, ⟨_, rfl⟩, HI.out.below.trans hs.1, hs.2 _ _ _ HI.out.ok, hs.2 _ _ _ HI.out.num, hs.2 _ _ _ HI.out.want, hs.2 _ _ _ HI.out.most⟩
end Gb
end Go.Proofs.YtljcnnigpfclkaaDoor
