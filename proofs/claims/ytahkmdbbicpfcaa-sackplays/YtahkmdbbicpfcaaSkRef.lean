
/- The document's lists of numbers: Add, Many, Drop. -/
import Derived.Test.YtahkmdbbicpfcaaSkMath
import Derived.Test.YtahkmdbbicpfcaaRefTexts
import Derived.Test.YtahkmdbbicpfcaaVec
import Derived.Test.YtahkmdbbicpfcaaHeld
import Derived.RegionTactic
namespace Go.Proofs.Ytahkmdbbicpfcaa
open Go.RowKit
namespace Sk
open Rk
def encN (x : Int) : List Value := [.int .i64 x]
theorem infoN : (Try.prog.info? 3).map (fun i => (i.zero, i.size, i.bytes)) = some (some (.int .i64 0), 1, 8) := by kernel_rfl
set_option maxRecDepth 100000 in
theorem layN : Vec.Lay Try.prog 28 3 1 encN where
  und := Try.underlying28
  len _ := rfl
  one x u hu := by simp [encN] at hu; rw [hu]; rfl
  pos := by decide
  info := by
    obtain ⟨i0, hi, hz0, hz1, hz2⟩ := info_parts infoN
    exact ⟨i0, _, hi, hz0, hz1, by omega, rfl⟩
  size w := by
    have z1 := Try.sizeOf3
    rw [Vec.elem_of Try.underlying28, z1]
  none' w ty b n cap a c h := by
    have z1 := Try.sizeOf3
    unfold Builtin.append_
    cases a <;> cases b <;> simp [go_sem, z1, Builtin.lenOf, Builtin.firstCells, h]
abbrev EsN (W : World) (x : Value) (l : List Int) : Prop := Vec.Es 3 encN W x l
abbrev OwnN (W : World) (B : Nat) (v : Value) (l : List Int) : Prop := Vec.Own 3 1 encN W B v l
/-- the numbers of a slice -/
def NumsAt (W : World) (a : Option Addr) (l : List Int) : Prop := 0 < l.length → ∃ b o, a = some ⟨b, o, none⟩ ∧ ∀ (j : Nat) (hj : j < l.length), W.cell? ⟨b, o + j, none⟩ = some (.int .i64 l[j])
theorem es_nums {W : World} {a : Option Addr} {n c : Nat} {l : List Int} (h : EsN W (.slice a n c) l) : n = l.length ∧ n ≤ c ∧ NumsAt W a l := by
  obtain ⟨a', c', he, hc, hg⟩ := h.get (sz := 1) (fun _ => rfl)
  injection he with e1 e2 e3
  subst e1 e2 e3
  refine ⟨rfl, hc, fun h0 => ?_⟩
  obtain ⟨b, o, ha, hx⟩ := hg h0
  exact ⟨b, o, ha, fun j hj => by
    have := hx j hj 0 (.int .i64 l[j]) (by decide) rfl
    simpa using this⟩
theorem es_slice {W : World} {v : Value} {l : List Int} (h : EsN W v l) : ∃ a c, v = .slice a l.length c := by
  obtain ⟨a, c, e, -⟩ := h
  exact ⟨a, c, e⟩
/-- append, under a name that the walk does not open -/
def AppN (ats : Array TypeId) (ty : TypeId) (args : Array Value) : Sem Value := Builtin.append_ ats ty args
theorem appN_eq (ats : Array TypeId) (ty : TypeId) (args : Array Value) : Builtin.append_ ats ty args = AppN ats ty args := rfl
/-- one append more, above what lay at first -/
theorem appN_step {w W : World} {v x : Value} {l1 l2 : List Int} (hB : Below w.heap.size w W) (ho : OwnN W w.heap.size v l1) (hs : Vec.Src encN W x l2) (hz : l1.length + l2.length ≤ 100000) :
    ∃ v' W', (∀ ty, (AppN #[28, 28] ty #[v, x]).run Try.prog W = .ok v' W') ∧ OwnN W' w.heap.size v' (l1 ++ l2) ∧ Below w.heap.size w W' ∧ W.grownBy W' v.ownBlock := by
  obtain ⟨v', W', h1, h2, h3, _⟩ := Vec.run_app layN W 28 w.heap.size ho hs hz hB.size
  exact ⟨v', W', fun ty => h1, h2, hB.grown h3 hB.size fun g hg => ho.geB g hg, h3⟩
theorem srcN_blk {W : World} {g : Nat} {x : Int} (hb : Blk W g 3 #[.int .i64 x]) : Vec.Src encN W (.slice (some ⟨g, 0, none⟩) 1 1) [x] :=
  ⟨_, _, rfl, fun _ => ⟨_, _, rfl, fun j u hu => by
    rw [Lib.cell_of_heap hb, Nat.zero_add]
    simp only [Vec.cells, encN, List.flatMap_cons, List.flatMap_nil, List.append_nil] at hu
    rw [← Array.getElem?_toList]
    exact hu⟩⟩
theorem ownN_alloc {W : World} {B : Nat} {v : Value} {l : List Int} (h : OwnN W B v l) (o : Obj) : OwnN (W.alloc o) B v l :=
  h.stay fun g hg => Below.heap_alloc W o g (World.ownsRow.lt h g hg).2
/-- three appends: the middle one of a single number -/
theorem app3 {w V : World} (hB : Below w.heap.size w V) {g0 : Nat} (ho : OwnN V w.heap.size (.slice (some ⟨g0, 0, none⟩) 0 0) []) {g1 : Nat} {x : Int} (hx : Blk V g1 3 #[.int .i64 x]) (hne : g1 ≠ g0) {x0 x1 : Value} {l0 l1 : List Int} (he0 : EsN w x0 l0) (he1 : EsN w x1 l1) (hz : l0.length + l1.length ≤ 50000) :
    ∃ v1 W1 v2 W2 v3 W3, (∀ ty, (AppN #[28, 28] ty #[.slice (some ⟨g0, 0, none⟩) 0 0, x0]).run Try.prog V = .ok v1 W1) ∧ (∀ ty, (AppN #[28, 28] ty #[v1, .slice (some ⟨g1, 0, none⟩) 1 1]).run Try.prog W1 = .ok v2 W2) ∧ (∀ ty, (AppN #[28, 28] ty #[v2, x1]).run Try.prog W2 = .ok v3 W3) ∧ Hid (EsN W3 v3 (l0 ++ x :: l1) ∧ Below w.heap.size w W3) := by
  obtain ⟨v1, W1, r1, o1, b1, g1'⟩ := appN_step hB ho (he0.below hB).src (by simp; omega)
  rw [List.nil_append] at o1
  have hx1 : Blk W1 g1 3 #[.int .i64 x] := hx.grown g1' (fun e => hne (by injection e))
  obtain ⟨v2, W2, r2, o2, b2, _⟩ := appN_step b1 o1 (srcN_blk hx1) (by simp; omega)
  obtain ⟨v3, W3, r3, o3, b3, _⟩ := appN_step b2 o2 (he1.below b2).src (by simp; omega)
  rw [List.append_assoc, List.singleton_append] at o3
  exact ⟨v1, W1, v2, W2, v3, W3, r1, r2, r3, o3.es, b3⟩
/-- the same, the single number laid behind the first -/
theorem app3' {w V : World} (hB : Below w.heap.size w V) {g0 : Nat} (ho : OwnN V w.heap.size (.slice (some ⟨g0, 0, none⟩) 0 0) []) (x : Int) {x0 x1 : Value} {l0 l1 : List Int} (he0 : EsN w x0 l0) (he1 : EsN w x1 l1) (hz : l0.length + l1.length ≤ 50000) :
    ∃ v1 W1 v2 W2 v3 W3, (∀ ty, (AppN #[28, 28] ty #[.slice (some ⟨g0, 0, none⟩) 0 0, x0]).run Try.prog V = .ok v1 W1) ∧ (∀ ty, (AppN #[28, 28] ty #[v1, .slice (some ⟨W1.heap.size, 0, none⟩) 1 1]).run Try.prog (W1.alloc (.cells #[.int .i64 x] 3)) = .ok v2 W2) ∧ (∀ ty, (AppN #[28, 28] ty #[v2, x1]).run Try.prog W2 = .ok v3 W3) ∧ Hid (EsN W3 v3 (l0 ++ x :: l1) ∧ Below w.heap.size w W3) := by
  obtain ⟨v1, W1, r1, o1, b1, g1'⟩ := appN_step hB ho (he0.below hB).src (by simp; omega)
  rw [List.nil_append] at o1
  obtain ⟨v2, W2, r2, o2, b2, _⟩ := appN_step (b1.alloc b1.size _) (ownN_alloc o1 _) (srcN_blk (Blk.new W1 3 #[.int .i64 x])) (by simp; omega)
  obtain ⟨v3, W3, r3, o3, b3, _⟩ := appN_step b2 o2 (he1.below b2).src (by simp; omega)
  rw [List.append_assoc, List.singleton_append] at o3
  exact ⟨v1, W1, v2, W2, v3, W3, r1, r2, r3, o3.es, b3⟩
/-- how many stand ahead -/
def rk (x : Int) : List Int → Nat
  | [] => 0
  | y :: l => if y ≤ x then rk x l + 1 else 0
theorem rk_le (x : Int) : ∀ l : List Int, rk x l ≤ l.length
  | [] => Nat.le_refl _
  | y :: l => by
    have := rk_le x l
    rw [rk, List.length_cons]; split <;> omega
theorem ins_rk (x : Int) : ∀ l : List Int, ins x l = l.take (rk x l) ++ x :: l.drop (rk x l)
  | [] => rfl
  | y :: l => by
    rw [ins, rk]
    split
    · rw [List.take_succ_cons, List.drop_succ_cons, List.cons_append, ← ins_rk x l]
    · rfl
theorem rk_lt (x : Int) : ∀ (l : List Int) (j : Nat) (hj : j < l.length), j < rk x l → l[j] ≤ x
  | y :: l, 0, _, h => by
    rw [rk] at h
    split at h
    · assumption
    · omega
  | y :: l, j + 1, hj, h => by
    rw [rk] at h
    split at h
    · exact rk_lt x l j (by simpa using hj) (by omega)
    · omega
theorem rk_at (x : Int) : ∀ (l : List Int) (hj : rk x l < l.length), ¬ l[rk x l] ≤ x
  | y :: l, hj => by
    by_cases h : y ≤ x
    · have e : rk x (y :: l) = rk x l + 1 := by rw [rk, if_pos h]
      have h2 : rk x l < l.length := by rw [e] at hj; simpa using hj
      have := rk_at x l h2
      simpa [e] using this
    · have e : rk x (y :: l) = 0 := by rw [rk, if_neg h]
      simpa [e] using h
attribute [local go_sem ↓] appN_eq
set_option maxRecDepth 100000 in
set_option maxHeartbeats 4000000 in
theorem refAdd_any (a : Option Addr) (n c : Nat) (l : List Int) (x : Int) (w : World) (hl : l.length ≤ 10000) (h : EsN w (.slice a n c) l) :
    Calls Try.prog 9 #[.slice a n c, .int .i64 x] w fun e w' => ∃ v', e = .returned v' ∧ EsN w' v' (ins x l) ∧ Below w.heap.size w w' := by
  obtain ⟨hnl, hcap, hnum⟩ := es_nums h
  have hr0 := rk_le x l
  obtain ⟨r, hr⟩ : ∃ r, rk x l = r := ⟨_, rfl⟩
  have hins := ins_rk x l
  have hlt := rk_lt x l
  have hat : ∀ y, l[rk x l]? = some y → ¬ y ≤ x := fun y hy => by
    obtain ⟨h1, h2⟩ := List.getElem?_eq_some_iff.1 hy
    rw [← h2]
    exact rk_at x l h1
  rw [hr] at hr0 hins hlt hat
  obtain ⟨x0, hx0, he0⟩ := h.take layN r (by omega)
  obtain ⟨x1, hx1, he1⟩ := h.drop layN r (by omega)
  have hzz : (l.take r).length + (l.drop r).length ≤ 50000 := by rw [List.length_take, List.length_drop]; omega
  have HINS := Lib.hid hins
  have bA : Below w.heap.size w (w.alloc (.cells #[] 3)).drew := below_dr ((Below.refl _ w).alloc (Nat.le_refl _) _)
  have bB : Below w.heap.size w ((w.alloc (.cells #[] 3)).alloc (.cells #[.int .i64 x] 3)).drew := below_dr (((Below.refl _ w).alloc (Nat.le_refl _) _).alloc (by simp) _)
  have bC : Below w.heap.size w ((w.alloc (.cells #[.int .i64 x] 3)).alloc (.cells #[] 3)).drew := below_dr (((Below.refl _ w).alloc (Nat.le_refl _) _).alloc (by simp) _)
  have kB : Blk ((w.alloc (.cells #[] 3)).alloc (.cells #[.int .i64 x] 3)) (w.heap.size + 1) 3 #[.int .i64 x] := by
    have := Blk.new (w.alloc (.cells #[] 3)) 3 #[.int .i64 x]
    rwa [World.size_alloc] at this
  have kC : Blk ((w.alloc (.cells #[.int .i64 x] 3)).alloc (.cells #[] 3)) w.heap.size 3 #[.int .i64 x] := (Blk.new w 3 #[.int .i64 x]).alloc _
  have oC : OwnN ((w.alloc (.cells #[.int .i64 x] 3)).alloc (.cells #[] 3)) w.heap.size (.slice (some ⟨w.heap.size + 1, 0, none⟩) 0 0) [] := by
    have := Vec.Own.new (e := 3) encN 1 (w.alloc (.cells #[.int .i64 x] 3)) w.heap.size (by simp)
    rwa [World.size_alloc] at this
  obtain ⟨a1, A1, a2, A2, a3, A3, ra1, ra2, ra3, HA⟩ := app3' bA (Vec.Own.new encN 1 w w.heap.size (Nat.le_refl _)) x he0 he1 hzz
  obtain ⟨b1, B1, b2, B2, b3, B3, rb1, rb2, rb3, HB⟩ := app3 bB (ownN_alloc (Vec.Own.new encN 1 w w.heap.size (Nat.le_refl _)) _) (g1 := w.heap.size + 1) kB (by omega) he0 he1 hzz
  obtain ⟨c1, C1, c2, C2, c3, C3, rc1, rc2, rc3, HC⟩ := app3 bC oC (g1 := w.heap.size) kC (by omega) he0 he1 hzz
  rw [← HINS.out] at HA HB HC
  have HX0 := Lib.hid hx0
  have HX1 := Lib.hid hx1
  have HNUM := Lib.hid hnum
  have HLT := Lib.hid hlt
  have HAT := Lib.hid hat
  have HNL := Lib.hid hnl
  have hrn : r ≤ n := by omega
  have hn2 : n ≤ 10000 := by omega
  have RA1 := Lib.hid ra1
  have RA2 := Lib.hid ra2
  have RA3 := Lib.hid ra3
  have RB1 := Lib.hid rb1
  have RB2 := Lib.hid rb2
  have RB3 := Lib.hid rb3
  have RC1 := Lib.hid rc1
  have RC2 := Lib.hid rc2
  have RC3 := Lib.hid rc3
  clear h hl he0 he1 hnl hr0 hins hx0 hx1 hr hzz HINS bA bB bC kB kC oC hnum hlt hat ra1 ra2 ra3 rb1 rb2 rb3 rc1 rc2 rc3
  go_enter Try.func9, Try.ntmps9
  go_wp2
  go_loopw [5] (fun v wr => ∃ j : Nat, j ≤ r ∧ v = .int .i64 (j : Int) ∧ wr = w) (fun v _ => r - (intOf v).toNat)
  case atStart => exact ⟨0, Nat.zero_le _, rfl, rfl⟩
  case round =>
    obtain ⟨j, hjr, rfl, rfl⟩ := hrel
    by_cases hj : j < r
    · have hjl : j < l.length := by have := HNL.out; omega
      have hle := HLT.out j hjl hj
      obtain ⟨b, o, rfl, hcs⟩ := HNUM.out (by omega)
      have hc := hcs j hjl
      obtain ⟨y, hy⟩ : ∃ y, l[j] = y := ⟨_, rfl⟩
      rw [hy] at hc hle
      have hjn : j < n := by omega
      have hd : decide (y ≤ x) = true := decide_eq_true hle
      clear hcs hy hjl hle
      go_wp2
      go_roundw
      case rel => exact ⟨j + 1, by omega, by simp, trivial⟩
      case measure => simp [intOf]; omega
    · obtain rfl : j = r := by omega
      have hx0 := HX0.out
      have hx1 := HX1.out
      have ra1 := RA1.out
      have ra2 := RA2.out
      have ra3 := RA3.out
      have rb1 := RB1.out
      have rb2 := RB2.out
      have rb3 := RB3.out
      have rc1 := RC1.out
      have rc2 := RC2.out
      have rc3 := RC3.out
      by_cases hjn : j < n
      · have hjl : j < l.length := by have := HNL.out; omega
        have hle := HAT.out _ (List.getElem?_eq_getElem hjl)
        obtain ⟨b, o, rfl, hcs⟩ := HNUM.out (by omega)
        have hc := hcs j hjl
        obtain ⟨y, hy⟩ : ∃ y, l[j] = y := ⟨_, rfl⟩
        rw [hy] at hc hle
        have hd : decide (y ≤ x) = false := decide_eq_false (by omega)
        clear hcs hy hjl hle
        go_wp2_with fail
        go_region
        all_goals
          go_wp2
          go_ret
          first | exact ⟨a3, rfl, HA.out⟩ | exact ⟨b3, rfl, HB.out⟩ | exact ⟨c3, rfl, HC.out⟩
      · obtain rfl : j = n := by omega
        go_wp2_with fail
        go_region
        all_goals
          go_wp2
          go_ret
          first | exact ⟨a3, rfl, HA.out⟩ | exact ⟨b3, rfl, HB.out⟩ | exact ⟨c3, rfl, HC.out⟩
end Sk
end Go.Proofs.Ytahkmdbbicpfcaa
