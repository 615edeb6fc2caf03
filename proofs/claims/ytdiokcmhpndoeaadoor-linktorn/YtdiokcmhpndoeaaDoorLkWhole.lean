
/- link.whole: the whole part's payloads, one by one. -/
import Derived.Test.YtdiokcmhpndoeaaDoorLkFirst
import Derived.Test.YtdiokcmhpndoeaaDoorLkScanMath
import Derived.Test.YtdiokcmhpndoeaaDoorLkRange
namespace Go.Proofs.YtdiokcmhpndoeaaDoor
open Go.RowKit Go.Shelf
attribute [local go_sem] Oper.semAt_some
section
attribute [local go_sem ↓] app_eq
theorem none_eq (n c : Nat) (w : World) : (binOp .eql 22 (.slice none n c) (.slice none 0 0)).run Tryd.prog w = .ok (.bool true) w := by kernel_rfl
theorem BRow.base {W : World} {B B' : Nat} {v : Value} {l : List UInt8} (h : BRow W B v l) (hB : B' ≤ B) : BRow W B' v l := ⟨h.1, h.2.elim .inl (fun ⟨g, c, cur, e, hg, r⟩ => .inr ⟨g, c, cur, e, Nat.le_trans hB hg, r⟩)⟩
set_option maxRecDepth 100000 in
set_option maxHeartbeats 1000000 in
theorem cloneS_any (a : Option Addr) (n cap : Nat) (s : ByteArray) (hn : n = s.size) (hs : s.size ≤ 1000000000) (w : World) (hB : BytesS w a s) :
    Calls Tryd.prog 25 #[.slice a n cap] w fun e w' => ∃ v, e = .returned v ∧ BRow w' w.heap.size v (Cl.bl s) ∧ Below w.heap.size w w' := by
  cases a with
  | none =>
    have h0 : s.size = 0 := by
      rcases hB with h | ⟨b, o, e, _⟩
      · exact h
      · cases e
    have hb : Cl.bl s = [] := List.length_eq_zero_iff.1 (by rw [Cl.bl_len]; exact h0)
    have hq := none_eq n cap
    rw [hb]
    clear hB hb h0 hn hs
    go_enter Tryd.func25, Tryd.ntmps25
    go_wp2
    go_ret
    exact ⟨_, rfl, World.ownsRow_nil _ _ _ _, Below.refl _ _⟩
  | some a =>
    have hq := some_eq a n cap
    obtain ⟨v', w2, hap, hrow, hb2⟩ := run_app_copy w (some a) n cap s hn hs hB
    have HR := Lib.hid hrow
    have HB := Lib.hid hb2
    clear hB hn hs hrow hb2
    go_enter Tryd.func25, Tryd.ntmps25
    go_wp2
    go_ret
    exact ⟨_, rfl, HR.out, HB.out⟩
end
set_option maxRecDepth 100000 in
theorem whole_any (a : Option Addr) (n cap : Nat) (w : World) :
    Calls Tryd.prog 22 #[.slice a n cap] w fun e w' => e = .returned (.func (.func 29) #[] #[.pointer (some ⟨w.heap.size, 0, none⟩)]) ∧ w.alloc (.cells #[.slice a n cap] 22) = w' := by
  go_enter Tryd.func22, Tryd.ntmps22
  go_wp2
  go_ret
  exact ⟨rfl, rfl⟩
theorem whole1_enters : ∀ args w, (callFunc 29 args).run Tryd.prog w = .ok (.enter 29 args) w := enters_of Tryd.func29 (by kernel_rfl) rfl
/-- a payload as it is given: the place behind its frame, its slice, its bytes -/
structure Lk.Giv where
  at' : Nat
  v : Value
  p : ByteArray
def Lk.Giv.enc (x : Lk.Giv) : Array Value := #[.int .i64 (x.at' : Int), x.v]
def Lk.Giv.M (x : Lk.Giv) (W : World) : Prop := BRow W 0 x.v (Cl.bl x.p)
def Lk.Giv.it (x : Lk.Giv) : Nat × ByteArray := (x.at', x.p)
/-- what the bytes' reader needs: the box, the bytes, the table -/
def lkKeeps (Bs : Nat) (a : Option Addr) (n : Nat) (A B : World) : Prop := B.heap[Bs]? = A.heap[Bs]? ∧ (∀ b o, a = some ⟨b, o, none⟩ → 0 < n → B.heap[b]? = A.heap[b]?) ∧ B.heap[0]? = A.heap[0]? ∧ A.heap.size ≤ B.heap.size
theorem lkKeeps.refl (Bs : Nat) (a : Option Addr) (n : Nat) (A : World) : lkKeeps Bs a n A A := ⟨rfl, fun _ _ _ _ => rfl, rfl, Nat.le_refl _⟩
theorem lkKeeps.trans {Bs : Nat} {a : Option Addr} {n : Nat} {A B C : World} (h : lkKeeps Bs a n A B) (k : lkKeeps Bs a n B C) : lkKeeps Bs a n A C := ⟨k.1.trans h.1, fun b o e h0 => (k.2.1 b o e h0).trans (h.2.1 b o e h0), k.2.2.1.trans h.2.2.1, Nat.le_trans h.2.2.2 k.2.2.2⟩
theorem lkKeeps.below {Bs : Nat} {a : Option Addr} {s : ByteArray} {A B : World} (hb : Below A.heap.size A B) (hBs : Bs < A.heap.size) (hS : BytesS A a s) (hE : LkEnv A) : lkKeeps Bs a s.size A B :=
  ⟨hb.block _ hBs, fun b o e h0 => by
    rcases hS with h | ⟨b', o', e', hlt, _⟩
    · omega
    · rw [e] at e'; cases e'; exact hb.block _ hlt, hb.block _ hE.1, hb.size⟩
theorem lkKeeps.bytes {Bs : Nat} {a : Option Addr} {s : ByteArray} {A B : World} (h : lkKeeps Bs a s.size A B) (hS : BytesS A a s) : BytesS B a s := by
  by_cases h0 : s.size = 0
  · exact .inl h0
  · rcases hS with h' | ⟨b, o, e, hlt, hB⟩
    · exact .inl h'
    · exact .inr ⟨b, o, e, Nat.lt_of_lt_of_le hlt h.2.2.2, fun i hi => (World.cell?_of_block (w := A) (a := ⟨b, o + i, none⟩) (h.2.1 b o e (by omega))).trans (hB i hi)⟩
theorem abides_below {α : Type} {B : Nat} {J : List α → World → Prop} (h : AbidesFrom B J) {xs : List α} {A C : World} (hJ : J xs A) (hb : Below A.heap.size A C) : J xs C :=
  h xs A C none hJ ⟨hb.os, hb.tape, hb.output, hb.size, fun k hk _ => hb.block k hk⟩ (fun r e => by cases e)
set_option maxRecDepth 100000 in
set_option maxHeartbeats 2000000 in
theorem whole1_in (l Bs : Nat) (a : Option Addr) (n cap : Nat) (s : ByteArray) (hn : n = s.size) (hc : n ≤ cap) (hs : s.size ≤ 1000000) (J : List Lk.Giv → World → Prop) (W : World) (hJa : AbidesFrom W.heap.size J)
    (hY : ∀ pre x W1, J pre W1 → x.M W1 → pre.length < s.size + 1 → YieldAt Fence.wide (2 - 1) Tryd.prog l x.enc W1 fun e W' => e = .returned (.bool true) ∧ J (pre ++ [x]) W' ∧ lkKeeps Bs a s.size W1 W')
    (hBs : Blk W Bs 22 #[.slice a n cap]) (hB : BytesS W a s) (hE : LkEnv W) (h0 : J [] W) :
    CallsIn Fence.wide 2 Tryd.prog 29 #[.func (.yield l) #[] #[], .pointer (some ⟨Bs, 0, none⟩)] W fun e W' => (∃ v, e = .returned v) ∧ ∃ xs, xs.map Lk.Giv.it = Lk.items s ∧ J xs W' := by
  have HB := Lib.hid hB
  have HE := Lib.hid hE
  have HBS := Lib.hid hBs
  have HN := Lib.hid hn
  have HS := Lib.hid hs
  have HJA := Lib.hid hJa
  have HY := Lib.hid hY
  have hnb : n ≤ 1000000 := by omega
  clear hB hE hBs hn hs hJa hY
  refine callsIn_of_wp Tryd.func29 rfl trivial ?_ rfl
  simp only [Tryd.ntmps29, List.size_toArray, List.length_cons, List.length_nil, Nat.reduceAdd, Nat.reduceSub, Array.replicate_succ, Array.replicate_zero, List.push_toArray, List.append_toArray, List.nil_append, List.cons_append]
  gi_wp2
  gi_loopw [3] (fun i wr => ∃ k at' : Nat, ∃ xs : List Lk.Giv, at' ≤ n ∧ i = .int .i64 at' ∧ Hid (Lk.scanN s k = (xs.map Lk.Giv.it, at') ∧ xs.length = k ∧ J xs wr ∧ lkKeeps Bs a s.size W wr)) (fun i _ => n - (intOf i).toNat)
  case atStart => exact ⟨0, 0, [], Nat.zero_le _, rfl, Lib.hid ⟨rfl, rfl, h0, lkKeeps.refl _ _ _ _⟩⟩
  case round =>
    obtain ⟨k, at', xs, hat, rfl, HI⟩ := hrel
    have hsn := HN.out
    have hKw := HI.out.2.2.2
    have hcell : wr.cell? ⟨Bs, 0, none⟩ = some (.slice a n cap) := (World.cell?_of_block (w := W) (a := ⟨Bs, 0, none⟩) hKw.1).trans (HBS.out.cl 0 _ rfl).1
    have hcut := cut_l a n cap at' hat
    have hBw := hKw.bytes HB.out
    have hEw := HE.out.of hKw.2.2.2 hKw.2.2.1
    have hB1 : BytesS wr (cutAddr a at' cap) (Cl.behind s at') := hBw.cut cap at' s.size (by omega) (by omega) (Nat.le_refl _)
    have hz1 : n - at' = (Cl.behind s at').size := by rw [Cl.behind_size, hsn]
    have HFI := Lib.hid (first_any (cutAddr a at' cap) (n - at') (cap - at') (Cl.behind s at') hz1 (by omega) (by rw [← hz1]; omega) wr hEw hB1)
    have hob := Lk.one_bd (Cl.behind s at')
    rw [← hz1] at hob
    obtain ⟨p, kk, code, ho⟩ : ∃ p kk code, Lk.one (Cl.behind s at') = (p, kk, code) := ⟨_, _, _, rfl⟩
    rw [ho] at HFI hob
    dsimp only at HFI hob
    have HO := Lib.hid ho
    have HEW := Lib.hid hEw
    have HBW := Lib.hid hBw
    have hBsl : Bs < wr.heap.size := Nat.lt_of_lt_of_le HBS.out.lt hKw.2.2.2
    generalize cutAddr a at' cap = a1 at hcut HFI
    obtain ⟨n1, hn1⟩ : ∃ n1, n - at' = n1 := ⟨_, rfl⟩
    rw [hn1] at hcut HFI hob
    have hn1b : at' + n1 ≤ n := by omega
    generalize cap - at' = c1 at hcut HFI
    have HOB := Lib.hid hob
    clear hKw hBw hEw hB1 hz1 ho hsn hob hn1
    by_cases hc0 : code = 0
    · subst hc0
      have hkk := HOB.out.1
      have hk5 := (HOB.out.2.2.1 rfl).1
      have hps := (HOB.out.2.2.1 rfl).2.1
      gi_wp2_with (first | (refine ⟨trivial, ?_⟩; gi_at_call 23; refine (callsIn_wide.2 HFI.out).mono ?_; rintro e w3 ⟨a3, n3, c3, rfl, hn3, hc3, hB3, hb3⟩))
      have HCL := Lib.hid (cloneS_any a3 p.size c3 p rfl (by omega) w3 (hB3.below hb3))
      have HB3 := Lib.hid hb3
      clear hB3 hb3
      refine ⟨trivial, ?_⟩
      refine (callsIn_wide.2 HCL.out).mono ?_
      rintro e w4 ⟨v4, rfl, hr4, hb4⟩
      have hb34 := HB3.out.trans (hb4.mono HB3.out.size)
      have hJ4 := abides_below HJA.out HI.out.2.2.1 hb34
      have hsb := Lk.scanN_bd s k
      rw [HI.out.1] at hsb
      obtain ⟨fn, tmps, assign, body, hy, hR⟩ := HY.out xs ⟨at' + kk, v4, p⟩ w4 hJ4 (hr4.base (Nat.zero_le _)) (by have h9 := hsb.2.1; rw [List.length_map] at h9; have h8 := hsb.1; dsimp only at h9 h8; omega)
      have e1 : ((at' + kk : Nat) : Int) = (at' : Int) + (kk : Int) := by omega
      have hy2 : (Instr.yield l #[.int .i64 ((at' : Int) + (kk : Int)), v4]).run Tryd.prog w4 = .ok (.round l fn tmps assign body) w4 := by
        rw [← e1]; exact hy
      have HB4 := Lib.hid hb34
      clear hr4 hb4 hb34 hJ4 hsb hy e1 HCL
      gi_wp2
      refine hR.mono ?_
      rintro e w5 ⟨rfl, hJ5, hK5⟩
      have HN2 : Hid (Lk.scanN s (k + 1) = ((xs ++ [(⟨at' + kk, v4, p⟩ : Lk.Giv)]).map Lk.Giv.it, at' + kk) ∧ (xs ++ [(⟨at' + kk, v4, p⟩ : Lk.Giv)]).length = k + 1 ∧ J (xs ++ [⟨at' + kk, v4, p⟩]) w5 ∧ lkKeeps Bs a s.size W w5) := by
        refine Lib.hid ⟨?_, by rw [List.length_append, HI.out.2.1]; rfl, hJ5, (HI.out.2.2.2.trans (lkKeeps.below HB4.out hBsl HBW.out HEW.out)).trans hK5⟩
        rw [Lk.scanN_step HI.out.1 HO.out, List.map_append]
        rfl
      gi_wp2
      go_roundw
      case rel => exact ⟨k + 1, at' + kk, _, by omega, by simp, HN2⟩
      case measure => simp [intOf]; omega
    · have hc1 : (code : Int) ≠ 0 := by omega
      have hc2 : ((code : Int) != 0) = true := by simpa using hc1
      obtain ⟨rfl, rfl⟩ := HOB.out.2.2.2 hc0
      gi_wp2_with (first | (refine ⟨trivial, ?_⟩; gi_at_call 23; refine (callsIn_wide.2 HFI.out).mono ?_; rintro e w3 ⟨a3, n3, c3, rfl, hn3, hc3, hB3, hb3⟩; have HB3 := Lib.hid hb3; clear hn3 hc3 hB3 hb3) | refine ⟨trivial, ?_⟩)
      refine ⟨(fun _ h => by cases h), ?_⟩
      gi_wp2
      refine bodyPost_ret (results_none rfl _ _ _) rfl ?_
      refine ⟨⟨_, rfl⟩, xs, ?_, abides_below HJA.out HI.out.2.2.1 HB3.out⟩
      exact (Lk.done HI.out.1 (by rw [List.length_map]; exact HI.out.2.1) (by rw [HO.out]; exact hc0)).1.symm
theorem whole_seq (Bs : Nat) (a : Option Addr) (n cap : Nat) (s : ByteArray) (hn : n = s.size) (hc : n ≤ cap) (hs : s.size ≤ 1000000) (w : World) (hBs : Blk w Bs 22 #[.slice a n cap]) (hB : BytesS w a s) (hE : LkEnv w) :
    SeqM Fence.wide 2 Tryd.prog 29 #[.pointer (some ⟨Bs, 0, none⟩)] Lk.Giv.enc Lk.Giv.M (lkKeeps Bs a s.size) (fun xs => xs.map Lk.Giv.it = Lk.items s) (s.size + 1) w := fun l J W hW hJ hY h0 =>
  whole1_in l Bs a n cap s hn hc hs J W hJ hY (hBs.below hW hBs.lt) (hB.below hW) (hE.below hW hE.1) h0
end Go.Proofs.YtdiokcmhpndoeaaDoor
