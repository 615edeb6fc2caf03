
/- The document's lists of entries: Put, Drop. -/
import Derived.Test.YtdaofajdabadgaaRkRef
import Derived.Test.YtdaofajdabadgaaHeld
import Derived.RegionTactic
namespace Go.Proofs.Ytdaofajdabadgaa
open Go.RowKit
namespace Rk
/-- append, under a name that the walk does not open -/
def AppE (ats : Array TypeId) (ty : TypeId) (args : Array Value) : Sem Value := Builtin.append_ ats ty args
theorem appE_eq (ats : Array TypeId) (ty : TypeId) (args : Array Value) : Builtin.append_ ats ty args = AppE ats ty args := rfl
theorem dr_below {a b : World} (h : Dr a b) : Below a.heap.size a b := h.below (Below.refl _ _)
/-- one append more, above what lay at first -/
theorem appE_step {w W : World} {v x : Value} {l1 l2 : List Ent} (hB : Below w.heap.size w W) (ho : OwnE W w.heap.size v l1) (hs : Vec.Src encE W x l2) (hz : l1.length + l2.length ≤ 100000) :
    ∃ v' W', (∀ ty, (AppE #[27, 27] ty #[v, x]).run Try.prog W = .ok v' W') ∧ OwnE W' w.heap.size v' (l1 ++ l2) ∧ Below w.heap.size w W' := by
  obtain ⟨v', W', h1, h2, h3, _⟩ := Vec.run_app layE W 27 w.heap.size ho hs hz hB.size
  exact ⟨v', W', fun ty => h1, h2, hB.grown h3 hB.size fun g hg => ho.geB g hg⟩
theorem srcE_new (w : World) (x : Ent) : Vec.Src encE (w.alloc (.cells #[.string x.1, .int .i64 x.2] 38)) (.slice (some ⟨w.heap.size, 0, none⟩) 1 1) [x] :=
  ⟨_, _, rfl, fun _ => ⟨_, _, rfl, fun j u hu => by
    have hb := Blk.new w 38 #[.string x.1, .int .i64 x.2]
    rw [Lib.cell_of_heap hb, Nat.zero_add]
    simp only [Vec.cells, encE, List.flatMap_cons, List.flatMap_nil, List.append_nil] at hu
    rw [← Array.getElem?_toList]
    exact hu⟩⟩
theorem ownE_alloc {W : World} {B : Nat} {v : Value} {l : List Ent} (h : OwnE W B v l) (o : Obj) : OwnE (W.alloc o) B v l :=
  h.stay fun g hg => Below.heap_alloc W o g (World.ownsRow.lt h g hg).2
theorem fit_ins {l : List Ent} {key : ByteArray} {v : Int} (h : Fit l) (hk : key.size ≤ maxLen) (hl : l.length ≤ 900) : Fit (insL cS key v l) := by
  refine ⟨?_, fun x hx => ?_⟩
  · rw [insL_len]; split <;> omega
  · rcases insL_mem odS l x hx with e | e
    · rw [e]; exact hk
    · exact h.2 x e
theorem fit_del {l : List Ent} {key : ByteArray} (h : Fit l) : Fit (delL cS key l) := by
  refine ⟨?_, fun x hx => h.2 x (delL_mem l x hx)⟩
  have := h.1
  rw [delL_len]; split <;> omega
attribute [local go_sem ↓] appE_eq
set_option maxRecDepth 100000 in
set_option maxHeartbeats 4000000 in
theorem refPut_any (a : Option Addr) (n c : Nat) (l : List Ent) (key : ByteArray) (val : Int) (w : World) (hl : Fit l) (hk : key.size ≤ maxLen) (h : EsE w (.slice a n c) l) :
    Calls Try.prog 13 #[.slice a n c, .string key, .int .i64 val] w fun e w' => ∃ x', e = .returned x' ∧ EsE w' x' (insL cS key val l) ∧ Below w.heap.size w w' := by
  have HF := Lib.hid (find_any a n c l key w hl hk h)
  have hnl : n = l.length := by obtain ⟨a', c', he, _⟩ := h; injection he
  have hrl := rkL_le (c := cS) (k := key) l
  have HLT := Lib.hid (has_lt (key := key) (l := l))
  have hl1 := hl.1
  obtain ⟨at', hat⟩ : ∃ m, rkL cS key l = m := ⟨_, rfl⟩
  obtain ⟨th, hth⟩ : ∃ b, (getL cS key l).isSome = b := ⟨_, rfl⟩
  have HCUT := Lib.hid (insL_cut (key := key) val l)
  rw [hat, hth] at HF HCUT HLT
  rw [hat] at hrl
  obtain ⟨x0, hx0, he0⟩ := h.take layE at' (by omega)
  obtain ⟨x1, hx1, he1⟩ := h.drop layE (if th then at' + 1 else at') (by
    cases th with
    | false => exact Nat.le_trans hrl (by omega)
    | true => have := HLT.out rfl; simp only [if_true]; omega)
  -- the worlds behind Find
  have HW : Hid (∀ W, Dr w W → ∃ v1 W1 v2 W2 v3 W3, (∀ ty, (AppE #[27, 27] ty #[.slice (some ⟨W.heap.size, 0, none⟩) 0 0, x0]).run Try.prog (W.alloc (.cells #[] 38)) = .ok v1 W1) ∧
      (∀ ty, (AppE #[27, 27] ty #[v1, .slice (some ⟨W1.heap.size, 0, none⟩) 1 1]).run Try.prog (W1.alloc (.cells #[.string key, .int .i64 val] 38)) = .ok v2 W2) ∧
      (∀ ty, (AppE #[27, 27] ty #[v2, x1]).run Try.prog W2 = .ok v3 W3) ∧ Hid (EsE W3 v3 (insL cS key val l) ∧ Below w.heap.size w W3)) := fun W hW => by
    have b0 := dr_below hW
    have bA : Below w.heap.size w (W.alloc (.cells #[] 38)) := b0.alloc b0.size _
    obtain ⟨v1, W1, r1, o1, b1⟩ := appE_step bA (Vec.Own.new encE 2 W w.heap.size b0.size) (he0.below bA).src (by rw [List.length_take]; simp; omega)
    rw [List.nil_append] at o1
    have bB : Below w.heap.size w (W1.alloc (.cells #[.string key, .int .i64 val] 38)) := b1.alloc b1.size _
    obtain ⟨v2, W2, r2, o2, b2⟩ := appE_step bB (ownE_alloc o1 _) (srcE_new W1 (key, val)) (by rw [List.length_take]; simp; omega)
    obtain ⟨v3, W3, r3, o3, b3⟩ := appE_step b2 o2 (he1.below b2).src (by rw [List.length_append, List.length_take, List.length_drop]; simp; omega)
    refine ⟨v1, W1, v2, W2, v3, W3, r1, r2, r3, ?_, b3⟩
    rw [HCUT.out]
    exact o3.es
  have HX0 := Lib.hid hx0
  have HX1 := Lib.hid hx1
  have hn1 : at' ≤ n := by omega
  have hn2 : n ≤ 1000 := by omega
  clear h hl he0 he1 hnl hrl hl1 HCUT hx0 hx1 hth hat
  go_enter Try.func13, Try.ntmps13
  go_wp2_with fail
  refine HF.out.mono ?_
  rintro e w1 ⟨rfl, hdr⟩
  obtain ⟨v1, W1, v2, W2, v3, W3, r1, r2, r3, HFIN⟩ := HW.out w1 hdr
  have hx0 := HX0.out
  clear HW HF HX0 hdr
  cases th with
  | false =>
    have hx1 := HX1.out
    simp only [Bool.false_eq_true, if_false] at hx1
    clear HX1 HLT
    go_wp2
    go_ret
    exact ⟨v3, rfl, HFIN.out⟩
  | true =>
    have hx1 : ∀ u, (Instr.slice 27 (.slice a n c) (some (.int .i64 ((at' : Int) + 1))) none none).run Try.prog u = .ok x1 u := fun u => by
      have := HX1.out u
      simp only [if_true] at this
      rw [show ((at' + 1 : Nat) : Int) = (at' : Int) + 1 by omega] at this
      exact this
    clear HX1 HLT
    go_wp2
    all_goals
      go_ret
      exact ⟨v3, rfl, HFIN.out⟩
set_option maxRecDepth 100000 in
set_option maxHeartbeats 4000000 in
theorem refDrop_any (a : Option Addr) (n c : Nat) (l : List Ent) (key : ByteArray) (w : World) (hl : Fit l) (hk : key.size ≤ maxLen) (h : EsE w (.slice a n c) l) :
    Calls Try.prog 15 #[.slice a n c, .string key] w fun e w' => ∃ x', e = .returned x' ∧ EsE w' x' (delL cS key l) ∧ Below w.heap.size w w' := by
  have HF := Lib.hid (find_any a n c l key w hl hk h)
  have hnl : n = l.length := by obtain ⟨a', c', he, _⟩ := h; injection he
  have hrl := rkL_le (c := cS) (k := key) l
  have HLT := Lib.hid (has_lt (key := key) (l := l))
  have hl1 := hl.1
  obtain ⟨at', hat⟩ : ∃ m, rkL cS key l = m := ⟨_, rfl⟩
  obtain ⟨th, hth⟩ : ∃ b, (getL cS key l).isSome = b := ⟨_, rfl⟩
  have HCUT := Lib.hid (delL_cut (key := key) l)
  rw [hat, hth] at HF HCUT HLT
  rw [hat] at hrl
  cases th with
  | false =>
    have HFIN : Hid (∀ W, Dr w W → EsE W (.slice a n c) (delL cS key l) ∧ Below w.heap.size w W) := fun W hW => by
      have b0 := dr_below hW
      have hcut := HCUT.out
      simp only [Bool.false_eq_true, if_false] at hcut
      rw [hcut]
      exact ⟨h.below b0, b0⟩
    clear h hl hnl hrl hl1 HCUT hth hat HLT
    go_enter Try.func15, Try.ntmps15
    go_wp2_with fail
    refine HF.out.mono ?_
    rintro e w1 ⟨rfl, hdr⟩
    have HFI := Lib.hid (HFIN.out w1 hdr)
    go_wp2
    go_ret
    exact ⟨_, rfl, HFI.out⟩
  | true =>
    have hlt := HLT.out rfl
    obtain ⟨x0, hx0, he0⟩ := h.take layE at' (by omega)
    obtain ⟨x1, hx1', he1⟩ := h.drop layE (at' + 1) (by omega)
    have HX1 : Hid (∀ u, (Instr.slice 27 (.slice a n c) (some (.int .i64 ((at' : Int) + 1))) none none).run Try.prog u = .ok x1 u) := fun u => by
      have := hx1' u
      rw [show ((at' + 1 : Nat) : Int) = (at' : Int) + 1 by omega] at this
      exact this
    have HW : Hid (∀ W, Dr w W → ∃ v1 W1 v3 W3, (∀ ty, (AppE #[27, 27] ty #[.slice (some ⟨W.heap.size, 0, none⟩) 0 0, x0]).run Try.prog (W.alloc (.cells #[] 38)).drew = .ok v1 W1) ∧
        (∀ ty, (AppE #[27, 27] ty #[v1, x1]).run Try.prog W1 = .ok v3 W3) ∧ Hid (EsE W3 v3 (delL cS key l) ∧ Below w.heap.size w W3)) := fun W hW => by
      have b0 := dr_below hW
      have bA : Below w.heap.size w (W.alloc (.cells #[] 38)).drew := below_dr (b0.alloc b0.size _)
      obtain ⟨v1, W1, r1, o1, b1⟩ := appE_step (v := .slice (some ⟨W.heap.size, 0, none⟩) 0 0) (l1 := []) bA (Vec.Own.new encE 2 W w.heap.size b0.size) (he0.below bA).src (by rw [List.length_take]; simp; omega)
      rw [List.nil_append] at o1
      obtain ⟨v3, W3, r3, o3, b3⟩ := appE_step b1 o1 (he1.below b1).src (by rw [List.length_take, List.length_drop]; omega)
      refine ⟨v1, W1, v3, W3, r1, r3, ?_, b3⟩
      have hcut := HCUT.out
      simp only [if_true] at hcut
      rw [hcut]
      exact o3.es
    have hn1 : at' ≤ n := by omega
    have hn2 : n ≤ 1000 := by omega
    have HX0 := Lib.hid hx0
    have hi1 : IntKind.i64.wrap ((at' : Int) + 1) = (at' : Int) + 1 := wr64 _ (by omega) (by omega)
    clear h hl he0 he1 hnl hrl hl1 HCUT hx0 hx1' hth hat HLT hlt
    go_enter Try.func15, Try.ntmps15
    go_wp2_with fail
    refine HF.out.mono ?_
    rintro e w1 ⟨rfl, hdr⟩
    obtain ⟨v1, W1, v3, W3, r1, r3, HFIN⟩ := HW.out w1 hdr
    have hx0 := HX0.out
    have hx1 := HX1.out
    clear HW HF HX0 HX1 hdr
    go_wp2_with fail
    go_region
    all_goals
      go_wp2
      go_ret
      exact ⟨v3, rfl, HFIN.out⟩
end Rk
end Go.Proofs.Ytdaofajdabadgaa
