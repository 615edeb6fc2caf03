
/- slices.Values over texts: they, one by one. -/
import Derived.Test.YtljcnnigpfclkaaDoorGbGood
import Derived.Test.YtljcnnigpfclkaaDoorOpens
namespace Go.Proofs.YtljcnnigpfclkaaDoor
open Go.RowKit Go.Shelf
open Dp
attribute [local go_sem] Oper.semAt_some
namespace Gb
/-- the cells of S stay -/
def KpL (S : Nat → Prop) (A B : World) : Prop := ∀ (b i : Nat) (v : Value), S b → A.cell? ⟨b, i, none⟩ = some v → B.cell? ⟨b, i, none⟩ = some v
theorem KpL.refl (S : Nat → Prop) (A : World) : KpL S A A := fun _ _ _ _ h => h
theorem KpL.trans {S : Nat → Prop} {A B C : World} (h : KpL S A B) (k : KpL S B C) : KpL S A C := fun b i v hS x => k b i v hS (h b i v hS x)
theorem KpL.below {S : Nat → Prop} {A B : World} (h : Below A.heap.size A B) : KpL S A B := fun b i _ _ x => (h.cell (p := ⟨b, i, none⟩) (lt_of_cell x)).trans x
theorem cells_at {A : World} {b i : Nat} {v : Value} (h : A.cell? ⟨b, i, none⟩ = some v) {o : Obj} (ho : A.heap[b]? = some o) : o.isCells = true := by
  unfold World.cell? at h
  simp only at h
  rw [ho] at h
  cases o <;> first | rfl | (simp at h)
theorem cell_block {A B : World} {b i : Nat} {v : Value} (h : A.cell? ⟨b, i, none⟩ = some v) (hk : B.heap[b]? = A.heap[b]?) : B.cell? ⟨b, i, none⟩ = some v := by
  unfold World.cell? at h ⊢
  simp only at h ⊢
  rw [hk]
  exact h
theorem KpL.put {S : Nat → Prop} {A : World} {k : Nat} {o : Obj} (o' : Obj) (hl : A.heap[k]? = some o) (ho : o.isCells = false) : KpL S A (A.putObj k o') := fun b i _ _ x => cell_block x (World.putObj_heap_other (fun e => by
  subst e
  rw [cells_at x hl] at ho
  cases ho))
theorem KpL.set {S : Nat → Prop} {A : World} {g : Nat} (hg : ¬ S g) (i : Nat) (u : Value) : KpL S A (A.setCell ⟨g, i, none⟩ u) := fun b j _ hS x => cell_block x (heap_set (fun e => hg (by have e' : g = b := e; rw [e']; exact hS)))
theorem KpL.env {S : Nat → Prop} {A B : World} (h : KpL S A B) (h0 : S 0) (hA : EnvC A) : EnvC B := by
  obtain ⟨m, hm⟩ := hA
  exact ⟨m, h _ _ _ h0 hm⟩
set_option maxRecDepth 100000 in
set_option maxHeartbeats 4000000 in
theorem values1_any (L : List (List UInt8)) (S : Nat → Prop) (a : Option Addr) (n c : Nat) (hn : L.length = n) (hL : n ≤ 1000) (b lp : Nat) (cont : List (List UInt8) → Bool) (J : List (List UInt8) → World → Prop) (Jx : World → Prop) (hY : RoundS lp cont J Jx (KpL S)) (W : World)
    (hB : W.cell? ⟨b, 0, none⟩ = some (.slice a n c)) (hat : 0 < n → ∃ g o, a = some ⟨g, o, none⟩ ∧ S g ∧ ∀ (j : Nat) (y : List UInt8), L[j]? = some y → W.cell? ⟨g, o + j, none⟩ = some (.string (B y))) (hJ : J L W) :
    Calls Tryd.prog 31 #[.func (.yield lp) #[] #[], .pointer (some ⟨b, 0, none⟩)] W fun e W' => (∃ v, e = .returned v) ∧ Rk.Res J Jx (Rk.run cont L []) [] W' ∧ KpL S W W' := by
  obtain ⟨RR, hRR⟩ : ∃ RR, Rk.run cont L [] = RR := ⟨_, rfl⟩
  have HST : Hid (J L W ∧ RR = Rk.run cont L []) := ⟨hJ, hRR.symm⟩
  rw [hRR]
  have HY := Lib.hid hY
  have HAT := Lib.hid hat
  have HN := Lib.hid hn
  clear hY hJ hRR hat hn
  refine (callsIn_wide (n := 3)).1 ?_
  refine callsIn_of_wp Tryd.func31 rfl trivial ?_ rfl
  simp only [Tryd.ntmps31, List.size_toArray, List.length_cons, List.length_nil, Nat.reduceAdd, Nat.reduceSub, Array.replicate_succ, Array.replicate_zero, List.push_toArray, List.append_toArray, List.nil_append, List.cons_append]
  gi_wp2
  gi_loopw [7] (fun i wr => ∃ k : Nat, k ≤ n ∧ i = .int .i64 (k : Int) ∧ Hid (J (L.drop k) wr ∧ RR = Rk.run cont (L.drop k) [] ∧ KpL S W wr)) (fun i _ => n - (intOf i).toNat)
  case atStart => exact ⟨0, Nat.zero_le _, rfl, HST.out.1, HST.out.2, KpL.refl _ _⟩
  case round =>
    clear HST hB
    obtain ⟨k, hk, rfl, HR⟩ := hrel
    by_cases hlt : k < n
    · have hkL : k < L.length := by rw [HN.out]; exact hlt
      have hdr : L.drop k = L[k] :: L.drop (k + 1) := List.drop_eq_getElem_cons hkL
      have hJ := HR.out.1
      have hR1 := HR.out.2.1
      rw [hdr] at hJ hR1
      obtain ⟨g, o, rfl, hSg, hcell⟩ := HAT.out (by omega)
      have ck : wr.cell? ⟨g, o + k, none⟩ = some (.string (B L[k])) := HR.out.2.2 _ _ _ hSg (hcell k _ (List.getElem?_eq_getElem hkL))
      have HRR : Hid (RR = (cont (L.drop (k + 1)) && Rk.run cont (L.drop (k + 1)) [])) := by show _ = _; rw [hR1, run_cons]
      obtain ⟨fn, tmps, assign, body, hy, hRD⟩ := HY.out L[k] _ wr hJ
      have HRD := Lib.hid hRD
      obtain ⟨bb, hbb⟩ : ∃ bb, cont (L.drop (k + 1)) = bb := ⟨_, rfl⟩
      rw [hbb] at HRD HRR
      simp only [encS] at hy
      obtain ⟨xb, hxb⟩ : ∃ xb, B L[k] = xb := ⟨_, rfl⟩
      rw [hxb] at hy ck
      clear hJ hR1 hdr hcell hRD hbb hxb hkL
      gi_wp2
      refine (round_any HRD.out).mono ?_
      rintro e W3 ⟨rfl, R3, K3⟩
      cases bb with
      | false =>
        have HFIN : Hid (Rk.Res J Jx RR [] W3 ∧ KpL S W W3) := ⟨⟨(fun h => by rw [HRR.out] at h; cases h), fun _ => R3.2 rfl⟩, HR.out.2.2.trans K3⟩
        clear R3 K3
        gi_wp2
        refine bodyPost_ret (results_none rfl _ _ _) rfl ?_
        exact ⟨⟨_, rfl⟩, HFIN.out⟩
      | true =>
        have HN2 : Hid (J (L.drop (k + 1)) W3 ∧ RR = Rk.run cont (L.drop (k + 1)) [] ∧ KpL S W W3) := ⟨R3.1 rfl, by rw [HRR.out, Bool.true_and], HR.out.2.2.trans K3⟩
        clear R3 K3
        gi_wp2
        go_roundw
        case rel => exact ⟨k + 1, hlt, by go_num, HN2⟩
        case measure => simp [intOf]; omega
    · obtain rfl : k = n := by omega
      have HFIN : Hid (Rk.Res J Jx RR [] wr ∧ KpL S W wr) := by
        obtain ⟨h1, h2, h3⟩ := HR.out
        rw [List.drop_eq_nil_of_le (by rw [HN.out]; exact Nat.le_refl _)] at h1 h2
        exact ⟨⟨fun _ => h1, fun h => by rw [h2] at h; cases h⟩, h3⟩
      gi_wp2
      go_end0
      exact ⟨⟨_, rfl⟩, HFIN.out⟩
theorem values_enters : ∀ args w, (callFunc 31 args).run Tryd.prog w = .ok (.enter 31 args) w := enters_of Tryd.func31 (by kernel_rfl) rfl
theorem values_any (a : Option Addr) (n c : Nat) (w : World) :
    Calls Tryd.prog 19 #[.slice a n c] w fun e w' => e = .returned (.func (.func 31) #[] #[.pointer (some ⟨w.heap.size, 0, none⟩)]) ∧ w.alloc (.cells #[.slice a n c] 25) = w' := by
  go_enter Tryd.func19, Tryd.ntmps19
  go_wp2
  go_ret
  exact ⟨rfl, rfl⟩
/-- of the texts that l holds those of which M holds are gone through, so far as the law's own function asks -/
theorem clos_any (WL : List (List UInt8)) (n m bo bn bw bm : Nat) (a : Option Addr) (c : Nat) (hnW : n < WL.length) (hW : WL.length ≤ 1000) (V : World) (d1 : bo ≠ bn) (d3 : bo ≠ bm) (d4 : bn ≠ bm)
    (ho : Blk V bo 4 #[.bool true]) (hn : Blk V bn 3 #[.int .i64 (n : Int)]) (hw : Blk V bw 25 #[.slice a WL.length c]) (hmm : Blk V bm 3 #[.int .i64 (m : Int)]) (hE : EsT V (.slice a WL.length c) WL) :
    Calls Tryd.prog 20 #[.string (B WL[n]), .pointer (some ⟨bo, 0, none⟩), .pointer (some ⟨bn, 0, none⟩), .pointer (some ⟨bw, 0, none⟩), .pointer (some ⟨bm, 0, none⟩)] V fun e w' => e = .returned (.bool (decide (n + 1 < m))) ∧ (V.setCell ⟨bo, 0, none⟩ (.bool true)).setCell ⟨bn, 0, none⟩ (.int .i64 ((n : Int) + 1)) = w' := by
  obtain ⟨a', c', hx, hc', hat⟩ := hE.at
  injection hx with ha hx2 hcc
  obtain ⟨g, o, hgo, hcell⟩ := hat (by omega)
  obtain rfl : a = some ⟨g, o, none⟩ := ha.trans hgo
  obtain ⟨V1, hV1⟩ : ∃ V1, V.setCell ⟨bo, 0, none⟩ (.bool true) = V1 := ⟨_, rfl⟩
  obtain ⟨V2, hV2⟩ : ∃ V2, V1.setCell ⟨bn, 0, none⟩ (.int .i64 ((n : Int) + 1)) = V2 := ⟨_, rfl⟩
  have p1 : V.cell? ⟨bo, 0, none⟩ = some (.bool true) := (ho.cl 0 _ rfl).1
  have p1f := (ho.cl 0 _ rfl).2
  have p2 : V.cell? ⟨bn, 0, none⟩ = some (.int .i64 (n : Int)) := (hn.cl 0 _ rfl).1
  have p3 : V.cell? ⟨bw, 0, none⟩ = some (.slice (some ⟨g, o, none⟩) WL.length c) := (hw.cl 0 _ rfl).1
  have p5 : V.cell? ⟨g, o + n, none⟩ = some (.string (B WL[n])) := hcell n _ (List.getElem?_eq_getElem hnW)
  have n1 : Blk V1 bn 3 #[.int .i64 (n : Int)] := by rw [← hV1]; exact hn.other (p := ⟨bo, 0, none⟩) d1 _
  have o2 : Blk V2 bo 4 #[.bool true] := by
    rw [← hV2, ← hV1]
    exact (ho.set 0 _).other (p := ⟨bn, 0, none⟩) (fun e => d1 e.symm) _
  have n2 : Blk V2 bn 3 #[.int .i64 ((n : Int) + 1)] := by rw [← hV2]; exact n1.set 0 _
  have m2 : Blk V2 bm 3 #[.int .i64 (m : Int)] := by
    rw [← hV2, ← hV1]
    exact (hmm.other (p := ⟨bo, 0, none⟩) d3 _).other (p := ⟨bn, 0, none⟩) d4 _
  have q1 : V1.cell? ⟨bn, 0, none⟩ = some (.int .i64 (n : Int)) := (n1.cl 0 _ rfl).1
  have q1f := (n1.cl 0 _ rfl).2
  have r1 : V2.cell? ⟨bo, 0, none⟩ = some (.bool true) := (o2.cl 0 _ rfl).1
  have r2 : V2.cell? ⟨bn, 0, none⟩ = some (.int .i64 ((n : Int) + 1)) := (n2.cl 0 _ rfl).1
  have r3 : V2.cell? ⟨bm, 0, none⟩ = some (.int .i64 (m : Int)) := (m2.cl 0 _ rfl).1
  obtain ⟨k, hk⟩ : ∃ k, WL.length = k := ⟨_, rfl⟩
  rw [hk] at p3 hnW hW
  have ink : (n : Int) < (k : Int) := by omega
  have hdd : decide ((n : Int) + 1 < (m : Int)) = decide (n + 1 < m) := by rw [Bool.eq_iff_iff]; simp only [decide_eq_true_eq]; omega
  generalize decide (n + 1 < m) = res at hdd ⊢
  have hxx : ((B WL[n]).toList == (B WL[n]).toList) = true := by simp
  generalize B WL[n] = xb at p5 hxx ⊢
  clear ha hx2 hcc hgo hcell hat hc' hE ho hn hw hmm n1 o2 n2 m2 hk d1 d3 d4
  go_enter Tryd.func20, Tryd.ntmps20
  go_wp2
  go_ret
  exact ⟨rfl, by first | rfl | rw [hV1, hV2] | rw [hV2]⟩
end Gb
end Go.Proofs.YtljcnnigpfclkaaDoor
