
/- What package glob's plain and choice answer. -/
import Derived.Test.YtljcnnigpfclkaaDoorGbSeq
import Derived.Test.YtljcnnigpfclkaaDoorTgValue
import Derived.Test.YtljcnnigpfclkaaDoorGbMarks
namespace Go.Proofs.YtljcnnigpfclkaaDoor
open Go.RowKit Go.Shelf
open Dp
attribute [local go_sem] Oper.semAt_some
namespace Gb
/-! ### Plain -/
/-- are all of a list such, each told with its place? -/
def chk {α : Type} (P : Nat → α → Bool) : Nat → List α → Bool
  | _, [] => true
  | i, x :: l => P i x && chk P (i + 1) l
/-- whether a round goes on: where rest is left behind it -/
def contP {α : Type} (P : Nat → α → Bool) (L rest : List α) : Bool := match L[L.length - rest.length - 1]? with
  | some x => P (L.length - rest.length - 1) x
  | none => true
theorem contP_at {α : Type} (P : Nat → α → Bool) (pre rest : List α) (x : α) : contP P (pre ++ x :: rest) rest = P pre.length x := by
  unfold contP
  rw [show (pre ++ x :: rest).length - rest.length - 1 = pre.length by rw [List.length_append, List.length_cons]; omega, List.getElem?_append_right (Nat.le_refl _), Nat.sub_self]
  rfl
theorem contP_run {α : Type} (P : Nat → α → Bool) : ∀ (M pre : List α), Rk.run (contP P (pre ++ M)) M [] = chk P pre.length M
  | [], _ => rfl
  | x :: M, pre => by
    rw [run_cons, contP_at, chk]
    have := contP_run P M (pre ++ [x])
    rw [List.append_assoc, List.singleton_append, List.length_append] at this
    rw [this]
    rfl
theorem contP_all {α : Type} (P : Nat → α → Bool) (L : List α) : Rk.run (contP P L) L [] = chk P 0 L := contP_run P L []
def partOk (i : Nat) (p : List UInt8) : Bool := decide (i < 6) && plainL p
theorem chk_parts : ∀ (L : List (List UInt8)) (i : Nat), i ≤ 6 → chk partOk i L = (decide (i + L.length ≤ 6) && L.all plainL)
  | [], i, h => by
    rw [chk, List.length_nil, Nat.add_zero, decide_eq_true h]; rfl
  | x :: L, i, h => by
    rw [chk, List.all_cons, List.length_cons, show partOk i x = (decide (i < 6) && plainL x) from rfl]
    by_cases h6 : i < 6
    · rw [chk_parts L (i + 1) (by omega), decide_eq_true h6, Bool.true_and, show i + 1 + L.length = i + (L.length + 1) by omega]
      cases plainL x <;> cases decide (i + (L.length + 1) ≤ 6) <;> cases L.all plainL <;> rfl
    · rw [decide_eq_false h6, decide_eq_false (show ¬ i + (L.length + 1) ≤ 6 by omega)]
      rfl
theorem chk_ch (a : List UInt8) : chk partOk 0 (spl 44 a) = chB a := by
  rw [chk_parts _ 0 (by omega), Nat.zero_add]; rfl
theorem plainL_at {l : List UInt8} {k : Nat} (hk : k < l.length) (h : plainC l[k] = false) : plainL l = false := by
  unfold plainL
  rw [List.all_eq_false.2 ⟨l[k], List.getElem_mem hk, by simp [h]⟩, Bool.and_false]
theorem plainL_take {l : List UInt8} (h0 : l ≠ []) (h : (l.take l.length).all plainC = true) : plainL l = true := by
  unfold plainL
  rw [List.take_length] at h
  rw [h, Bool.and_true]
  cases l with
  | nil => exact absurd rfl h0
  | cons _ _ => rfl
/-! ### The program -/
theorem valB_one (c : UInt8) : Tg.valB [c] = Tg.valC c := by simp [Tg.valB]
theorem contains_any (c : UInt8) (w : World) :
    Calls Tryd.prog 47 #[.string ⟨#[42, 63, 91, 93]⟩, .string ⟨#[c]⟩] w fun e w' => e = .returned (.bool (([42, 63, 91, 93] : List UInt8).contains c)) ∧ w = w' := by
  have h := Tryd.strings_Contains_one ⟨#[42, 63, 91, 93]⟩ c w
  rw [← Lib.contains_iff_indexByte] at h
  exact h.mono fun e w' h => ⟨h.1, h.2.symm⟩
set_option maxHeartbeats 1000000 in
theorem plain_any (c : UInt8) (w : World) :
    Calls Tryd.prog 38 #[.string ⟨#[c]⟩] w fun e w' => e = .returned (.bool (plainC c)) ∧ ∃ q, w' = w.drewN q := by
  have HV := fun w1 => Lib.hid (Y2.value_any ⟨#[c]⟩ w1 (small_max (l := [c]) (by simp)))
  have HC := fun w1 => Lib.hid (contains_any c w1)
  have HN : Hid (plainC c = (Tg.valB [c] && !([42, 63, 91, 93] : List UInt8).contains c)) := by show _ = _; rw [valB_one]; rfl
  have HV' : ∀ w1, Hid (Calls Tryd.prog 46 #[.string ⟨#[c]⟩] w1 fun e w' => e = .returned (.bool (Tg.valB [c])) ∧ ∃ q, w' = w1.drewN q) := HV
  clear HV
  generalize Tg.valB [c] = b0 at HV' HN
  generalize ([42, 63, 91, 93] : List UInt8).contains c = b1 at HC HN
  generalize plainC c = r at HN ⊢
  obtain rfl := HN.out
  cases b0
  · go_enter Tryd.func38, Tryd.ntmps38
    go_wp2_with (go_at_call 46; refine (HV' _).out.mono ?_; rintro e w1 ⟨rfl, q, rfl⟩)
    go_ret
    exact ⟨rfl, q, rfl⟩
  · go_enter Tryd.func38, Tryd.ntmps38
    go_wp2_with (first | (go_at_call 46; refine (HV' _).out.mono ?_; rintro e w1 ⟨rfl, q, rfl⟩) | (go_at_call 47; refine (HC _).out.mono ?_; rintro e w2 ⟨rfl, rfl⟩))
    go_ret
    exact ⟨rfl, q, rfl⟩
theorem results_choice (W : World) (b : Nat) (a : Array Value) (v : Bool) (h : Blk W b 4 #[.bool v]) (h2 : a[2]? = some (.pointer (some ⟨b, 0, none⟩))) :
    (results Tryd.f40 a).run Tryd.prog W = .ok (.bool v) W := by
  have c0 := (h.cl 0 _ rfl).1
  simp [results, Tryd.results40, go_sem, h2, c0]
/-- of the parts L, rest is left -/
def ChI (w : World) (rb cb : Nat) (L rest : List (List UInt8)) (V : World) : Prop :=
  ∃ pre, L = pre ++ rest ∧ pre.length ≤ 6 ∧ Blk V rb 4 #[.bool false] ∧ Blk V cb 3 #[.int .i64 (pre.length : Int)] ∧ Below w.heap.size w V
theorem chI_only {w V V' : World} {rb cb bx : Nat} (ho : Only [rb, cb] V V') {v1 v2 : Value} (h1 : Blk V rb 4 #[v1]) (h2 : Blk V cb 3 #[v2]) (hr : rb < bx) (hc : cb < bx) (hw : w.heap.size ≤ rb) (hw2 : w.heap.size ≤ cb) (hb : Below w.heap.size w V) :
    KeepsOthers V V' ∧ Keep3 bx V V' ∧ Below w.heap.size w V' :=
  ⟨ho.others (fun k hk => by
      rcases List.mem_cons.1 hk with rfl | hk
      · exact ⟨_, _, h1⟩
      · rw [List.mem_singleton.1 hk]; exact ⟨_, _, h2⟩),
    fun i _ t cs hb => ho.blk hb (fun hk => by
      rcases List.mem_cons.1 hk with e | hk
      · omega
      · have := List.mem_singleton.1 hk; omega),
    hb.trans (ho.drop hb.size (fun k hk => by
      rcases List.mem_cons.1 hk with rfl | hk
      · exact hw
      · rw [List.mem_singleton.1 hk]; exact hw2))⟩
set_option maxRecDepth 100000 in
set_option maxHeartbeats 8000000 in
theorem choice_any (a : List UInt8) (w : World) (ha : a.length ≤ 100000) :
    Calls Tryd.prog 40 #[.string (B a)] w fun e w' => e = .returned (.bool (chB a)) ∧ Below w.heap.size w w' := by
  have HCB := Lib.hid (chk_ch a)
  obtain ⟨X, hX⟩ : ∃ X, (w.alloc (.cells #[.bool false] 4)).alloc (.cells #[.int .i64 0] 3) = X := ⟨_, rfl⟩
  obtain ⟨rb, hrb⟩ : ∃ rb, w.heap.size = rb := ⟨_, rfl⟩
  obtain ⟨cb, hcb⟩ : ∃ cb, rb + 1 = cb := ⟨_, rfl⟩
  obtain ⟨bx, hbx⟩ : ∃ bx, X.heap.size = bx := ⟨_, rfl⟩
  have hbxe : bx = cb + 1 := by rw [← hbx, ← hX]; simp; omega
  have hbX : Below w.heap.size w X := by rw [← hX]; exact ((Below.refl _ w).alloc (Nat.le_refl _) _).alloc (by simp) _
  have k1 : Blk X rb 4 #[.bool false] := by rw [← hX, ← hrb]; exact (Blk.new w _ _).alloc _
  have k2 : Blk X cb 3 #[.int .i64 0] := by
    have := Blk.new (w.alloc (.cells #[.bool false] 4)) 3 #[.int .i64 0]
    rw [World.size_alloc, hrb, hcb, hX] at this
    exact this
  have HSQ := Lib.hid (splitSeq_pub a 44 X ha)
  have HPS : Hid (∀ p ∈ spl 44 a, p.length ≤ 100000) := fun p hp => by have := spl_le hp; omega
  obtain ⟨sb, hsb⟩ : ∃ sb, B a = sb := ⟨_, rfl⟩
  rw [hsb, hbx] at HSQ
  rw [hsb]
  obtain ⟨r, hr⟩ : ∃ r, chB a = r := ⟨_, rfl⟩
  rw [hr] at HCB ⊢
  obtain ⟨L, hL⟩ : ∃ L, spl 44 a = L := ⟨_, rfl⟩
  rw [hL] at HSQ HPS HCB
  have HRUN : Hid (Rk.run (contP partOk L) L [] = r) := by show _ = _; rw [contP_all]; exact HCB.out
  have HXE := Lib.hid hX
  have HRB := Lib.hid hrb
  have HCBE := Lib.hid hcb
  have HX0 : Hid (Below w.heap.size w X ∧ Blk X rb 4 #[.bool false] ∧ Blk X cb 3 #[.int .i64 0]) := ⟨hbX, k1, k2⟩
  have HBX : Hid (rb < bx ∧ cb < bx ∧ w.heap.size ≤ rb ∧ w.heap.size ≤ cb ∧ rb ≠ cb ∧ X.heap.size = bx) := ⟨by omega, by omega, by omega, by omega, by omega, hbx⟩
  clear hX hrb hcb hbX k1 k2 hsb hL hr ha hbxe HCB hbx
  refine (callsIn_wide (n := 3)).1 ?_
  refine callsIn_of_wp_marks Tryd.func40 rfl trivial ?_ rfl
  simp only [Tryd.ntmps40, List.size_toArray, List.length_cons, List.length_nil, Nat.reduceAdd, Nat.reduceSub, Array.replicate_succ, Array.replicate_zero, List.push_toArray, List.append_toArray, List.nil_append, List.cons_append]
  gi_wp2_with fail
  rw [HXE.out, HRB.out, HCBE.out]
  refine ⟨trivial, ?_⟩
  refine (callsIn_wide.2 HSQ.out).mono ?_
  rintro e w2 ⟨lbf, rfl, hseq, hb2, hz2, hb3⟩
  have hbl2 : X.heap.size ≤ X.heap.size := Nat.le_refl _
  have HST : Hid (ChI w rb cb L L w2) := ⟨[], rfl, by simp, HX0.out.2.1.below hb2 (by have := HBX.out; omega), HX0.out.2.2.below hb2 (by have := HBX.out; omega), below_step HX0.out.1 (Nat.le_refl _) (by rw [HBX.out.2.2.2.2.2]; exact hb2)⟩
  have hz : bx < w2.heap.size := by omega
  clear hb2 hz2 hb3 hbl2 HX0 HSQ
  gi_wp2_with fail
  refine wpIn_rangeB (by decide) (gf := 79) (lbf := lbf) rfl splitSeq1_enters hseq hz (fun h k => Keep3.trans h k) (fun W k o o' hk hc _ i _ t cs h => (Free.put o' hk hc).blk h) (Below.refl _ _) (fun _ => rfl)
    (contP partOk L) (ChI w rb cb L) (fun c V => c = .ret ∧ Blk V rb 4 #[.bool false] ∧ Below w.heap.size w V) ?own ?box ?ownx HST.out ?a1 ?assign ?body ?done ?stop
  case own =>
    rintro rest A A' row ⟨pre, e1, e2, e3, e4, e5⟩ hg hr
    have hf : Free A A' := ⟨row, hg, fun r e => (hr r e).2⟩
    exact ⟨pre, e1, e2, hf.blk e3, hf.blk e4, below_free e5 (Nat.le_refl _) hg (fun r e => by have := (hr r e).1; have := HBX.out; omega)⟩
  case box =>
    rintro rest A A' ⟨pre, e1, e2, e3, e4, e5⟩ ho
    have hb := HBX.out
    exact ⟨pre, e1, e2, ho.blk e3 (by simp; omega), ho.blk e4 (by simp; omega), e5.trans (ho.drop e5.size (by simp; omega))⟩
  case ownx =>
    rintro c A A' row ⟨e1, e3, e5⟩ hg hr
    have hf : Free A A' := ⟨row, hg, fun r e => (hr r e).2⟩
    exact ⟨e1, hf.blk e3, below_free e5 (Nat.le_refl _) hg (fun r e => by have := (hr r e).1; have := HBX.out; omega)⟩
  case assign =>
    intro lp x V K hK
    gi_wp2
    exact hK
  case body =>
    rintro lp x rest V ⟨pre, e1, e2, e3, e4, e5⟩
    have hxl : x.length ≤ 100000 := HPS.out x (by rw [e1]; simp)
    have hc : contP partOk L rest = (decide (pre.length < 6) && plainL x) := by rw [e1]; exact contP_at _ _ _ _
    have HE1 : Hid (L = (pre ++ [x]) ++ rest) := by show _ = _; rw [e1]; simp
    obtain ⟨n, hn⟩ : ∃ n, pre.length = n := ⟨_, rfl⟩
    have HNL : Hid ((pre ++ [x]).length = n + 1) := by show _ = _; rw [List.length_append, hn]; rfl
    rw [hn] at e2 e4 hc
    have w1' : wrap64 ((n : Int) + 1) = (n : Int) + 1 := IntWalk.wrap64_in _ ⟨by omega, by omega⟩
    have c2 : V.cell? ⟨cb, 0, none⟩ = some (.int .i64 (n : Int)) := (e4.cl 0 _ rfl).1
    have c2f : V.frozen? ⟨cb, 0, none⟩ = false := (e4.cl 0 _ rfl).2
    obtain ⟨V1, hV1⟩ : ∃ V1, V.setCell ⟨cb, 0, none⟩ (.int .i64 ((n : Int) + 1)) = V1 := ⟨_, rfl⟩
    have f1 : Blk V1 rb 4 #[.bool false] := by rw [← hV1]; exact e3.other (p := ⟨cb, 0, none⟩) (by have := HBX.out; show cb ≠ rb; omega) _
    have f2 : Blk V1 cb 3 #[.int .i64 ((n : Int) + 1)] := by rw [← hV1]; exact e4.set 0 _
    have f3 : Only [rb, cb] V V1 := by rw [← hV1]; exact Only.set _ _ _ _ (by simp)
    have c3 : V1.cell? ⟨cb, 0, none⟩ = some (.int .i64 ((n : Int) + 1)) := (f2.cl 0 _ rfl).1
    have HF := Lib.hid (And.intro f1 (And.intro f2 f3))
    have HE3 := Lib.hid e3
    have HE4 := Lib.hid e4
    have HE5 := Lib.hid e5
    -- where it leaves
    have HLEAVE : Hid (∀ q, KeepsOthers V ((V1.drewN q).setCell ⟨rb, 0, none⟩ (.bool false)) ∧ Keep3 bx V ((V1.drewN q).setCell ⟨rb, 0, none⟩ (.bool false)) ∧ Blk ((V1.drewN q).setCell ⟨rb, 0, none⟩ (.bool false)) rb 4 #[.bool false] ∧ Below w.heap.size w ((V1.drewN q).setCell ⟨rb, 0, none⟩ (.bool false))) := fun q => by
      have ho : Only [rb, cb] V ((V1.drewN q).setCell ⟨rb, 0, none⟩ (.bool false)) := (f3.trans (Only.below (below_q V1 q) _)).trans (Only.set _ _ _ _ (by simp))
      have hb := HBX.out
      obtain ⟨h1, h2, h3⟩ := chI_only ho e3 e4 hb.1 hb.2.1 hb.2.2.1 hb.2.2.2.1 e5
      exact ⟨h1, h2, Blk.set (show Blk (V1.drewN q) rb 4 _ from f1) 0 _, h3⟩
    have HF1 : Hid (∀ q, (V1.drewN q).cell? ⟨rb, 0, none⟩ = some (.bool false) ∧ (V1.drewN q).frozen? ⟨rb, 0, none⟩ = false) := fun q => f1.cl 0 _ rfl
    obtain ⟨xb, hxb⟩ : ∃ xb, B x = xb := ⟨_, rfl⟩
    have hq2 : xb.toList.isEmpty = x.isEmpty := by rw [← hxb, Lib.toList_data]
    have hq1 : (xb.toList == []) = x.isEmpty := by rw [← hq2]; cases xb.toList <;> rfl
    have HXZ : Hid (xb.size = x.length) := by show _ = _; rw [← hxb, B_size]
    have HEX : Hid (∀ (k : Nat) (hk : k < x.length), xb.extract k (k + 1) = ⟨#[x[k]]⟩) := fun k hk => by
      rw [← hxb, Lib.extract_eq]
      have : ((B x).data.toList.drop k).take (k + 1 - k) = [x[k]] := by
        show (x.drop k).take (k + 1 - k) = _
        rw [List.drop_eq_getElem_cons hk, show k + 1 - k = 1 by omega]
        rfl
      rw [this]
    have HXB := Lib.hid hxb
    clear e1 e3 e4 e5 f1 f2 f3 hn
    by_cases h6 : n < 6
    · by_cases hx0 : x = []
      · subst hx0
        have hcf : contP partOk L rest = false := by rw [hc, show plainL [] = false from rfl, Bool.and_false]
        rw [hcf]
        have HL0 := Lib.hid (HLEAVE.out 0)
        have g1 : V1.cell? ⟨rb, 0, none⟩ = some (.bool false) := (HF1.out 0).1
        have g2 : V1.frozen? ⟨rb, 0, none⟩ = false := (HF1.out 0).2
        have i6 : ¬ (6 : Int) < (n : Int) + 1 := by omega
        simp only [List.isEmpty_nil] at hq1 hq2
        show Code.wpIn _ _ _ _ _ { tmps := #[_, _, _, _, .string (B []), _, _, _, _, _, _, _, _, _, _, _, _, _, _, _, _, _, _, _, _, _, _, _, _, _], defers := _ } _
        rw [HXB.out]
        clear hc hcf hxl HXZ HEX HLEAVE HF1 HXB
        gi_wp2
        exact ⟨HL0.out.1, HL0.out.2.1, rfl, rfl, HL0.out.2.2.1, HL0.out.2.2.2⟩
      · have hxe : x.isEmpty = false := by cases x with | nil => exact absurd rfl hx0 | cons _ _ => rfl
        rw [hxe] at hq1 hq2
        have i6 : ¬ (6 : Int) < (n : Int) + 1 := by omega
        have HCT : Hid (contP partOk L rest = plainL x) := by show _ = _; rw [hc, decide_eq_true h6, Bool.true_and]
        have HX0 := Lib.hid hx0
        obtain ⟨m, hm⟩ : ∃ m, x.length = m := ⟨_, rfl⟩
        have HXM := Lib.hid hm
        have hxz : (xb.size : Int) = (m : Int) := by have := HXZ.out; omega
        have HXS : Hid (xb.size = m) := HXZ.out.trans hm
        have hmb : m ≤ 100000 := by omega
        -- where it goes on
        have HON : Hid (∀ q, plainL x = true → KeepsOthers V (V1.drewN q) ∧ Keep3 bx V (V1.drewN q) ∧ ChI w rb cb L rest (V1.drewN q)) := fun q _ => by
          obtain ⟨f1, f2, f3⟩ := HF.out
          have ho : Only [rb, cb] V (V1.drewN q) := f3.trans (Only.below (below_q V1 q) _)
          have hb := HBX.out
          obtain ⟨h1, h2, h3⟩ := chI_only ho HE3.out HE4.out hb.1 hb.2.1 hb.2.2.1 hb.2.2.2.1 HE5.out
          refine ⟨h1, h2, pre ++ [x], HE1.out, by rw [HNL.out]; omega, f1, ?_, h3⟩
          rw [HNL.out]
          exact f2
        clear hc hxl hxe HF hm hx0
        show Code.wpIn _ _ _ _ _ { tmps := #[_, _, _, _, .string (B x), _, _, _, _, _, _, _, _, _, _, _, _, _, _, _, _, _, _, _, _, _, _, _, _, _], defers := _ } _
        rw [HXB.out]
        gi_wp2
        gi_loopw [19] (fun i wr => ∃ k q : Nat, k ≤ m ∧ i = .int .i64 (k : Int) ∧ wr = V1.drewN q ∧ Hid ((x.take k).all plainC = true)) (fun i _ => m - (intOf i).toNat)
        case atStart => exact ⟨0, 0, Nat.zero_le _, rfl, rfl, rfl⟩
        case round =>
          clear hV1
          obtain ⟨k, q, hk, rfl, rfl, HA⟩ := hrel
          by_cases hlt : k < m
          · have hkx : k < x.length := by rw [HXM.out]; exact hlt
            have hx := HEX.out k hkx
            have HPC := Lib.hid (plain_any x[k] (V1.drewN q))
            have HTK : Hid (∀ h : plainC x[k] = true, (x.take (k + 1)).all plainC = true) := fun h => by
              rw [List.take_succ_eq_append_getElem hkx, List.all_append, HA.out]; simp [h]
            have HPF : Hid (∀ h : plainC x[k] = false, plainL x = false) := fun h => plainL_at hkx h
            obtain ⟨c, hcx⟩ : ∃ c, x[k] = c := ⟨_, rfl⟩
            rw [hcx] at hx HPC HTK HPF
            have w2' : wrap64 ((k : Int) + 1) = (k : Int) + 1 := IntWalk.wrap64_in _ ⟨by omega, by omega⟩
            have ik : (k : Int) + 1 ≤ (xb.size : Int) := by omega
            clear hcx HA
            obtain ⟨pc, hpc⟩ : ∃ pc, plainC c = pc := ⟨_, rfl⟩
            rw [hpc] at HPC HTK HPF
            cases pc with
            | true =>
              gi_wp2_with (first | (refine ⟨trivial, ?_⟩; gi_at_call 38; refine (callsIn_wide.2 HPC.out).mono ?_; rintro e w3 ⟨rfl, q', rfl⟩))
              go_roundw
              case rel => exact ⟨k + 1, q + q', hlt, by go_num, rfl, HTK.out trivial⟩
              case measure => simp [intOf]; omega
            | false =>
              have HCF : Hid (contP partOk L rest = false) := by show _ = _; rw [HCT.out]; exact HPF.out rfl
              gi_wp2_with fail
              refine ⟨trivial, ?_⟩
              refine (callsIn_wide.2 HPC.out).mono ?_
              rintro e w3 ⟨rfl, q', hw3⟩
              rw [World.drewN_drewN] at hw3
              subst hw3
              have HL0 := Lib.hid (HLEAVE.out (q + q'))
              have g1 := (HF1.out (q + q')).1
              have g2 := (HF1.out (q + q')).2
              gi_wp2
              exact ⟨HL0.out.1, HL0.out.2.1, HCF.out, rfl, HL0.out.2.2.1, HL0.out.2.2.2⟩
          · obtain rfl : k = m := by omega
            have hpl : plainL x = true := plainL_take HX0.out (by rw [HXM.out]; exact HA.out)
            have HFIN := Lib.hid (HON.out q hpl)
            have HCF : Hid (contP partOk L rest = true) := HCT.out.trans hpl
            clear hpl
            gi_wp2
            exact ⟨HFIN.out.1, HFIN.out.2.1, HCF.out, HFIN.out.2.2⟩
    · have hcf : contP partOk L rest = false := by rw [hc, decide_eq_false h6, Bool.false_and]
      rw [hcf]
      have HL0 := Lib.hid (HLEAVE.out 0)
      have g1 : V1.cell? ⟨rb, 0, none⟩ = some (.bool false) := (HF1.out 0).1
      have g2 : V1.frozen? ⟨rb, 0, none⟩ = false := (HF1.out 0).2
      have i6 : (6 : Int) < (n : Int) + 1 := by omega
      clear hc hcf hxl HXZ HEX HLEAVE HF1 HXB
      gi_wp2
      exact ⟨HL0.out.1, HL0.out.2.1, rfl, rfl, HL0.out.2.2.1, HL0.out.2.2.2⟩
  case done =>
    rintro D V hD hrun ⟨pre, e1, e2, e3, e4, e5⟩ hK
    have HR : Hid (r = true) := HRUN.out.symm.trans hrun
    have HM : Hid (Marks w.heap.size [D] V) := (Marks.nil _ _).cons (by have := HBX.out; omega) hK (by simp)
    have c1 : V.cell? ⟨rb, 0, none⟩ = some (.bool false) := (e3.cl 0 _ rfl).1
    have c1f := (e3.cl 0 _ rfl).2
    have HV : Hid (Blk (V.setCell ⟨rb, 0, none⟩ (.bool true)) rb 4 #[.bool true] ∧ Below w.heap.size w (V.setCell ⟨rb, 0, none⟩ (.bool true)) ∧ Marks w.heap.size [D] (V.setCell ⟨rb, 0, none⟩ (.bool true))) := ⟨e3.set 0 _, e5.setCell (p := ⟨rb, 0, none⟩) HBX.out.2.2.1 _, HM.out.set e3 0 _⟩
    clear e1 e2 e3 e4 e5 hK hrun
    gi_wp2
    exact leaves_marks [D] _ HV.out.2.2 fun W' hs => ⟨_, results_choice W' rb _ true (hs.2 _ _ _ HV.out.1) rfl, by rw [HR.out], HV.out.2.1.trans hs.1⟩
  case stop =>
    rintro D c V hD hrun ⟨rfl, e3, e5⟩ hK
    have HR : Hid (r = false) := HRUN.out.symm.trans hrun
    have HM : Hid (Marks w.heap.size [D] V) := (Marks.nil _ _).cons (by have := HBX.out; omega) hK (by simp)
    have HE3 := Lib.hid e3
    have HE5 := Lib.hid e5
    clear e3 e5 hK hrun
    gi_wp2
    exact leaves_marks [D] _ HM.out fun W' hs => ⟨_, results_choice W' rb _ false (hs.2 _ _ _ HE3.out) rfl, by rw [HR.out], HE5.out.trans hs.1⟩
end Gb
end Go.Proofs.YtljcnnigpfclkaaDoor
