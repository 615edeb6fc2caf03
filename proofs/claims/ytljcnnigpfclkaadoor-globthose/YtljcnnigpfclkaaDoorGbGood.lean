
/- What package glob's pieces, Good and Plain answer. -/
import Derived.Test.YtljcnnigpfclkaaDoorGbFirst
namespace Go.Proofs.YtljcnnigpfclkaaDoor
open Go.RowKit Go.Shelf
open Dp
attribute [local go_sem] Oper.semAt_some
namespace Gb
def encS (x : List UInt8) : Array Value := #[.string (B x)]
/-- what MaxLen holds stays an int -/
def KpE (A B : World) : Prop := EnvC A → EnvC B
theorem KpE.refl (A : World) : KpE A A := id
theorem KpE.trans {A B C : World} (h : KpE A B) (k : KpE B C) : KpE A C := fun x => k (h x)
theorem KpE.below {A B : World} (h : Below A.heap.size A B) : KpE A B := fun x => x.below h
theorem env_block {A B : World} (hA : EnvC A) (h : B.heap[0]? = A.heap[0]?) : EnvC B := by
  obtain ⟨m, hm⟩ := hA
  refine ⟨m, ?_⟩
  unfold World.cell? at hm ⊢
  simp only at hm ⊢
  rw [h]
  exact hm
theorem env_cells {A : World} (hA : EnvC A) {o : Obj} (ho : A.heap[0]? = some o) : o.isCells = true := by
  obtain ⟨m, hm⟩ := hA
  unfold World.cell? at hm
  simp only at hm
  rw [ho] at hm
  cases o <;> first | rfl | (simp at hm)
theorem KpE.put {A : World} {k : Nat} {o : Obj} (o' : Obj) (hl : A.heap[k]? = some o) (ho : o.isCells = false) : KpE A (A.putObj k o') := fun hA => env_block hA (World.putObj_heap_other (fun e => by
  subst e
  rw [env_cells hA hl] at ho
  cases ho))
theorem KpE.set {A : World} {g : Nat} (hg : g ≠ 0) (i : Nat) (v : Value) : KpE A (A.setCell ⟨g, i, none⟩ v) := fun hA => env_block hA (heap_set hg)
theorem KpE.only {A B : World} {ks : List Nat} (h : Only ks A B) (hk : ∀ k ∈ ks, k ≠ 0) : KpE A B := fun hA => by
  obtain ⟨m, hm⟩ := id hA
  exact env_block hA (h.block _ (lt_of_cell hm) (fun hx => hk _ hx rfl))
abbrev RoundS (lp : Nat) (cont : List (List UInt8) → Bool) (J : List (List UInt8) → World → Prop) (Jx : World → Prop) (Kp : World → World → Prop) : Prop :=
  ∀ x rest W, J (x :: rest) W → YieldAt Fence.wide 0 Tryd.prog lp (encS x) W fun e W' => e = .returned (.bool (cont rest)) ∧ Rk.Res J Jx (cont rest) rest W' ∧ Kp W W'
def sizeV : Value → Nat
  | .string s => s.size
  | _ => 0
set_option maxRecDepth 100000 in
set_option maxHeartbeats 4000000 in
theorem pieces1_any (l : List UInt8) (hl : l.length ≤ 100000) (b lp : Nat) (cont : List (List UInt8) → Bool) (J : List (List UInt8) → World → Prop) (Jx : World → Prop) (hab : ∀ l A B, J l A → Below A.heap.size A B → J l B) (hY : RoundS lp cont J Jx KpE) (W : World) (hE : EnvC W) (hB : Blk W b 9 #[strV l]) (hJ : J (pcs l) W) :
    Calls Tryd.prog 32 #[.func (.yield lp) #[] #[], .pointer (some ⟨b, 0, none⟩)] W fun e W' => (∃ v, e = .returned v) ∧ Rk.Res J Jx (Rk.run cont (pcs l) []) [] W' ∧ KpE W W' := by
  obtain ⟨RR, hRR⟩ : ∃ RR, Rk.run cont (pcs l) [] = RR := ⟨_, rfl⟩
  have HST : Hid (l.length ≤ 100000 ∧ J (pcs l) W ∧ RR = Rk.run cont (pcs l) [] ∧ EnvC W) := ⟨hl, hJ, hRR.symm, hE⟩
  have c1 : W.cell? ⟨b, 0, none⟩ = some (.string (B l)) := (hB.cl 0 _ rfl).1
  rw [hRR]
  have HY := Lib.hid hY
  have HAB := Lib.hid hab
  clear hY hB hJ hRR hab hE
  refine (callsIn_wide (n := 3)).1 ?_
  refine callsIn_of_wp Tryd.func32 rfl trivial ?_ rfl
  simp only [Tryd.ntmps32, List.size_toArray, List.length_cons, List.length_nil, Nat.reduceAdd, Nat.reduceSub, Array.replicate_succ, Array.replicate_zero, List.push_toArray, List.append_toArray, List.nil_append, List.cons_append]
  gi_wp2
  gi_loopw [3] (fun v wr => ∃ r : List UInt8, v = .string (B r) ∧ Hid (r.length ≤ 100000 ∧ J (pcs r) wr ∧ RR = Rk.run cont (pcs r) [] ∧ EnvC wr)) (fun v _ => sizeV v)
  case atStart => exact ⟨l, rfl, HST⟩
  case round =>
    clear HST c1
    obtain ⟨r, rfl, HR⟩ := hrel
    by_cases h0 : r = []
    · subst h0
      have HFIN : Hid (Rk.Res J Jx RR [] wr ∧ KpE W wr) := by
        obtain ⟨_, h1, h2, h3⟩ := HR.out
        rw [pcs_nil] at h1 h2
        exact ⟨⟨fun _ => h1, fun h => by rw [h2] at h; cases h⟩, fun _ => h3⟩
      gi_wp2
      go_end0
      exact ⟨⟨_, rfl⟩, HFIN.out⟩
    · have HFI := Lib.hid (first_any r wr HR.out.2.2.2 h0 HR.out.1)
      have hrl := HR.out.1
      have HR0 := Lib.hid h0
      have hne : (B r).toList.isEmpty = false := by
        rw [Lib.toList_data]
        cases r with
        | nil => exact absurd rfl h0
        | cons _ _ => rfl
      have hsz : (B r).size = r.length := B_size r
      have HXX : Hid (∀ k, k ≤ r.length → (B r).extract k (B r).size = B (r.drop k)) := fun k _ => by
        rw [Lib.extract_eq, B_size, List.take_of_length_le]
        simp
      have HSB := Lib.hid hsz
      obtain ⟨s, hs⟩ : ∃ s, B r = s := ⟨_, rfl⟩
      rw [hs] at HFI hne HXX HSB ⊢
      clear h0 hs hsz
      by_cases hf : first r = []
      · have hJ := HR.out.2.1
        have hR2 := HR.out.2.2.1
        rw [pcs_bad HR0.out hf] at hJ hR2
        have HRR : Hid (RR = cont []) := by show _ = _; rw [hR2, run_cons]; simp [Rk.run]
        have HJ := Lib.hid hJ
        rw [hf] at HFI
        obtain ⟨tb, htb⟩ : ∃ tb, B [] = tb := ⟨_, rfl⟩
        have hte : tb.toList.isEmpty = true := by rw [← htb, Lib.toList_data]; rfl
        have hte2 : (tb.toList == []) = true := by rw [← htb, Lib.toList_data]; rfl
        have HFI' : Hid (Calls Tryd.prog 33 #[.string s] wr fun e w' => e = .returned (.string tb) ∧ Below wr.heap.size wr w') := by rw [← htb]; exact HFI.out
        have HTB := Lib.hid htb
        clear hJ hR2 hf HFI htb
        gi_wp2_with fail
        refine ⟨trivial, ?_⟩
        refine (callsIn_wide.2 HFI'.out).mono ?_
        rintro e w1 ⟨rfl, hb1⟩
        obtain ⟨fn, tmps, assign, body, hy, hRD⟩ := HY.out [] _ w1 (HAB.out _ _ _ HJ.out hb1)
        have HRD := Lib.hid hRD
        have HE1 := Lib.hid (HR.out.2.2.2.below hb1)
        obtain ⟨bb, hbb⟩ : ∃ bb, cont [] = bb := ⟨_, rfl⟩
        rw [hbb] at HRD HRR
        simp only [encS] at hy
        rw [HTB.out] at hy
        clear hbb hRD hb1
        gi_wp2
        refine (round_any HRD.out).mono ?_
        rintro e W3 ⟨rfl, R3, K3⟩
        have HFIN : Hid (Rk.Res J Jx RR [] W3 ∧ KpE W W3) := by
          refine ⟨?_, fun _ => K3 HE1.out⟩
          rw [HRR.out]
          exact R3
        clear R3 K3
        cases bb
        all_goals
          gi_wp2
          refine bodyPost_ret (results_none rfl _ _ _) rfl ?_
          exact ⟨⟨_, rfl⟩, HFIN.out⟩
      · obtain ⟨n, hn⟩ : ∃ n, (first r).length = n := ⟨_, rfl⟩
        have hn1 : 1 ≤ n := by rw [← hn]; exact first_pos hf
        have hn2 : n ≤ r.length := by rw [← hn]; exact (first_tok hf).2.1
        have hJ := HR.out.2.1
        have hR2 := HR.out.2.2.1
        rw [pcs_more hf, hn] at hJ hR2
        have HJ := Lib.hid hJ
        obtain ⟨rest, hrest⟩ : ∃ rest, pcs (r.drop n) = rest := ⟨_, rfl⟩
        rw [hrest] at HJ hR2
        have HREST := Lib.hid hrest
        have HRR : Hid (RR = (cont rest && Rk.run cont rest [])) := by show _ = _; rw [hR2, run_cons]
        obtain ⟨t, ht⟩ : ∃ t, first r = t := ⟨_, rfl⟩
        rw [ht] at HFI HJ hn hf
        have hx := HXX.out n hn2
        have ins : (n : Int) ≤ (s.size : Int) := by have := HSB.out; omega
        have HDR : Hid ((r.drop n).length + n = r.length) := by show _ = _; rw [List.length_drop]; omega
        obtain ⟨r2, hr2⟩ : ∃ r2, r.drop n = r2 := ⟨_, rfl⟩
        rw [hr2] at hx HDR HREST
        obtain ⟨s2, hs2⟩ : ∃ s2, B r2 = s2 := ⟨_, rfl⟩
        have HS2 : Hid (s2 = B r2 ∧ s2.size = r2.length) := ⟨hs2.symm, by rw [← hs2, B_size]⟩
        rw [hs2] at hx
        have htn : (B t).toList.isEmpty = false := by
          rw [Lib.toList_data]
          cases t with
          | nil => exact absurd rfl hf
          | cons _ _ => rfl
        have htn2 : ((B t).toList == []) = false := by
          rw [Lib.toList_data]
          cases t with
          | nil => exact absurd rfl hf
          | cons _ _ => rfl
        have hts : ((B t).size : Int) = (n : Int) := by rw [B_size, hn]
        obtain ⟨tb, htb⟩ : ∃ tb, B t = tb := ⟨_, rfl⟩
        have HTB := Lib.hid htb
        have HFI' : Hid (Calls Tryd.prog 33 #[.string s] wr fun e w' => e = .returned (.string tb) ∧ Below wr.heap.size wr w') := by rw [← htb]; exact HFI.out
        rw [htb] at htn htn2 hts
        clear hJ hR2 hf htb hs2 hr2 hn ht hrest HFI
        gi_wp2_with fail
        refine ⟨trivial, ?_⟩
        refine (callsIn_wide.2 HFI'.out).mono ?_
        rintro e w1 ⟨rfl, hb1⟩
        obtain ⟨fn, tmps, assign, body, hy, hRD⟩ := HY.out t _ w1 (HAB.out _ _ _ HJ.out hb1)
        have HRD := Lib.hid hRD
        have HE1 := Lib.hid (HR.out.2.2.2.below hb1)
        obtain ⟨bb, hbb⟩ : ∃ bb, cont rest = bb := ⟨_, rfl⟩
        rw [hbb] at HRD HRR
        simp only [encS] at hy
        rw [HTB.out] at hy
        clear hbb hRD hb1
        cases bb with
        | false =>
          gi_wp2
          refine (round_any HRD.out).mono ?_
          rintro e W3 ⟨rfl, R3, K3⟩
          have HFIN : Hid (Rk.Res J Jx RR [] W3 ∧ KpE W W3) := ⟨⟨(fun h => by rw [HRR.out] at h; cases h), fun _ => R3.2 rfl⟩, fun _ => K3 HE1.out⟩
          clear R3 K3
          gi_wp2
          refine bodyPost_ret (results_none rfl _ _ _) rfl ?_
          exact ⟨⟨_, rfl⟩, HFIN.out⟩
        | true =>
          gi_wp2
          refine (round_any HRD.out).mono ?_
          rintro e W3 ⟨rfl, R3, K3⟩
          have HNX : Hid (r2.length ≤ 100000 ∧ J (pcs r2) W3 ∧ RR = Rk.run cont (pcs r2) [] ∧ EnvC W3) := by
            refine ⟨by have := HDR.out; omega, ?_, ?_, K3 HE1.out⟩
            · rw [HREST.out]; exact R3.1 rfl
            · rw [HREST.out, HRR.out, Bool.true_and]
          clear R3 K3
          gi_wp2
          go_roundw
          case rel => exact ⟨r2, by rw [HS2.out.1], HNX⟩
          case measure =>
            show sizeV (.string s2) < sizeV (.string s)
            have h1 := HS2.out.2
            have h2 := HSB.out
            have h3 := HDR.out
            show s2.size < s.size
            omega
end Gb
end Go.Proofs.YtljcnnigpfclkaaDoor
