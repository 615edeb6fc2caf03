
/- What the document's digit, Decimal and Text (tidemillref01) answer, for any int; below the call's own blocks nothing turns. -/
import Derived.Test.YtefnpfhhomkiaaaGreatDoorGrH
import Derived.Test.YtefnpfhhomkiaaaGreatDoorRows
import Derived.WalkKit
import Derived.WalkSpells
import Derived.WalkLawsBesides
import Derived.Lib.Hide
import Derived.IntWalk
import Derived.Deep.QuietTactic
import Derived.BigQuiet
import Derived.Deep.DeepCutAuto
import Derived.WalkSmall
namespace Go.Proofs.YtefnpfhhomkiaaaGreatDoor
open Go.RowKit
namespace Fx
theorem tmod10 (n : Int) : n.tmod 10 = if n < 0 then -((n.natAbs % 10 : Nat) : Int) else ((n.natAbs % 10 : Nat) : Int) := by
  split
  · obtain ⟨u, rfl⟩ : ∃ u : Nat, n = -(u : Int) := ⟨n.natAbs, by omega⟩
    rw [Int.neg_tmod, Int.tmod_eq_emod_of_nonneg (by omega)]; simp
  · obtain ⟨u, rfl⟩ : ∃ u : Nat, n = (u : Int) := ⟨n.natAbs, by omega⟩
    rw [Int.tmod_eq_emod_of_nonneg (by omega)]; simp
theorem tdiv10 (n : Int) : n.tdiv 10 = if n < 0 then -((n.natAbs / 10 : Nat) : Int) else ((n.natAbs / 10 : Nat) : Int) := by
  split
  · obtain ⟨u, rfl⟩ : ∃ u : Nat, n = -(u : Int) := ⟨n.natAbs, by omega⟩
    rw [Int.neg_tdiv, Int.tdiv_eq_ediv_of_nonneg (by omega)]; simp
  · obtain ⟨u, rfl⟩ : ∃ u : Nat, n = (u : Int) := ⟨n.natAbs, by omega⟩
    rw [Int.tdiv_eq_ediv_of_nonneg (by omega)]; simp
end Fx
set_option maxHeartbeats 400000 in
theorem refDigit_any (n : Int) (w : World) :
    Calls Tryz.prog 68 #[.int .i64 n] w fun e w' => e = .returned (.int .u8 ((48 + n.natAbs % 10 : Nat) : Int)) ∧ w = w' := by
  have ht := Fx.tmod10 n
  by_cases hn : n < 0
  · rw [if_pos hn] at ht
    have hd : n.natAbs % 10 < 10 := Nat.mod_lt _ (by decide)
    generalize n.natAbs % 10 = d at ht hd
    go_enter Tryz.func68, Tryz.ntmps68
    go_wp2
    all_goals go_ret
    all_goals exact ⟨Fx.ret_int (by omega), rfl⟩
  · rw [if_neg hn] at ht
    have hd : n.natAbs % 10 < 10 := Nat.mod_lt _ (by decide)
    generalize n.natAbs % 10 = d at ht hd
    go_enter Tryz.func68, Tryz.ntmps68
    go_wp2
    all_goals go_ret
    all_goals exact ⟨Fx.ret_int (by omega), rfl⟩
theorem refDigit_neg (u : Nat) (w : World) :
    Calls Tryz.prog 68 #[.int .i64 (-(u : Int))] w fun e w' => e = .returned (.int .u8 ((UInt8.ofNat (48 + u % 10)).toNat : Int)) ∧ w = w' := by
  have := refDigit_any (-(u : Int)) w
  rw [show (-(u : Int)).natAbs = u by omega] at this
  rw [Fx.ofNat_dig (Nat.mod_lt _ (by decide))]
  exact this
theorem refDigit_pos (u : Nat) (w : World) :
    Calls Tryz.prog 68 #[.int .i64 (u : Int)] w fun e w' => e = .returned (.int .u8 ((UInt8.ofNat (48 + u % 10)).toNat : Int)) ∧ w = w' := by
  have := refDigit_any (u : Int) w
  rw [show (u : Int).natAbs = u by omega] at this
  rw [Fx.ofNat_dig (Nat.mod_lt _ (by decide))]
  exact this
theorem build_one (c : UInt8) (W : World) : (Instr.buildSlice 42 1 #[(0, .int .u8 (c.toNat : Int))]).run Tryz.prog W = .ok (.slice (some ⟨W.heap.size, 0, none⟩) 1 1) (W.alloc (.cells #[.int .u8 (c.toNat : Int)] 5)) := by kernel_rfl
theorem conv_one (c : UInt8) (W : World) : (convert 42 9 (.slice (some ⟨W.heap.size, 0, none⟩) 1 1)).run Tryz.prog (W.alloc (.cells #[.int .u8 (c.toNat : Int)] 5)) = .ok (.string ⟨#[c]⟩) (W.alloc (.cells #[.int .u8 (c.toNat : Int)] 5)) :=
  run_convert_bytes_back (P := Tryz.prog) (W.alloc (.cells #[.int .u8 (c.toNat : Int)] 5)) 42 9 5 ⟨W.heap.size, 0, none⟩ 1 [c] Tryz.underlying42 Tryz.underlying5 Tryz.underlying9 (fun j hj => by
    have : j = 0 := by simpa using hj
    subst this
    simp [Addr.add])
theorem Fx.div10_neg (u : Nat) (h : u ≤ 9223372036854775808) : wrap64 ((-(u : Int)).tdiv 10) = -((u / 10 : Nat) : Int) := by
  rw [Int.neg_tdiv, Int.tdiv_eq_ediv_of_nonneg (by omega), IntWalk.wrap64_in _ ⟨by omega, by omega⟩]; omega
theorem Fx.div10_pos (u : Nat) (h : u ≤ 9223372036854775808) : wrap64 ((u : Int).tdiv 10) = ((u / 10 : Nat) : Int) := by
  rw [Int.tdiv_eq_ediv_of_nonneg (by omega), IntWalk.wrap64_in _ ⟨by omega, by omega⟩]; omega
theorem Fx.wdiv_neg (u : Nat) (h : u ≤ 9223372036854775808) : wrap64 (-((u : Int) / 10)) = -((u / 10 : Nat) : Int) := by
  rw [IntWalk.wrap64_in _ ⟨by omega, by omega⟩]; omega
set_option maxHeartbeats 400000 in
theorem refDecimal_neg (u : Nat) (h1 : u ≤ 9223372036854775808) (h0 : 0 < u) (w : World) :
    Calls Tryz.prog 37 #[.int .i64 (-(u : Int))] w fun e w' => e = .returned (.string ⟨(45 :: Lib.decDigits u).toArray⟩) ∧ Below w.heap.size w w' := by
  have HG := fun (d : Nat) (w1 : World) => Lib.hid (refDigit_neg d w1)
  have H0 := Lib.hid (Fx.decInv_first u)
  have HU := Lib.hid h1
  have E1 := Lib.hid (Fx.wdiv_neg u h1)
  clear h1
  go_enter Tryz.func37, Tryz.ntmps37
  go_wp2_with fail
  refine (HG u _).out.mono ?_
  rintro e w1 ⟨rfl, rfl⟩
  have hbs := build_one
  have hcv := conv_one
  generalize UInt8.ofNat (48 + u % 10) = c at H0 ⊢
  go_wp2_with fail
  go_loopw [3, 4] (fun s m wr => ∃ (q : Nat) (D : List UInt8), s = .string ⟨D.toArray⟩ ∧ m = .int .i64 (-(q : Int)) ∧ Fx.DecInv u q D ∧ q ≤ u ∧ Below w.heap.size w wr) (fun _ m _ => (intOf m).natAbs)
  case atStart => exact ⟨u / 10, [c], rfl, by rw [E1.out], H0.out, by omega, (Below.refl _ _).alloc (Nat.le_refl _) _⟩
  case round =>
    obtain ⟨q, D, rfl, rfl, hinv, hqu, hb⟩ := hrel
    have HI := Lib.hid hinv
    have hD := Fx.decInv_len hinv (by have := HU.out; omega)
    clear hinv
    by_cases hq : q = 0
    · subst hq
      have HF := Lib.hid (HI.out.1 rfl)
      go_wp2
      go_ret
      refine ⟨Fx.ret_str ?_, hb⟩
      rw [HF.out]
      exact Fx.mk_append [45] D
    · have hqz : ((-(q : Int)) != 0) = true := by rw [bne_iff_ne]; omega
      have E2 := Lib.hid (Fx.wdiv_neg q (by have := HU.out; omega))
      have HJ := Lib.hid (Fx.decInv_step HI.out hq)
      go_wp2_with fail
      refine (HG q _).out.mono ?_
      rintro e w1 ⟨rfl, rfl⟩
      generalize UInt8.ofNat (48 + q % 10) = d at HJ ⊢
      go_wp2
      go_roundw
      case rel => exact ⟨q / 10, d :: D, congrArg Value.string (Fx.mk_append [d] D), by rw [E2.out], HJ.out, by omega, hb.alloc hb.size _⟩
      case measure => rw [E2.out]; simp [intOf]; omega
theorem Fx.wdiv_pos (u : Nat) (h : u ≤ 9223372036854775808) : wrap64 ((u : Int) / 10) = ((u / 10 : Nat) : Int) := by
  rw [IntWalk.wrap64_in _ ⟨by omega, by omega⟩]; omega
set_option maxHeartbeats 400000 in
theorem refDecimal_pos (u : Nat) (h1 : u ≤ 9223372036854775808) (w : World) :
    Calls Tryz.prog 37 #[.int .i64 ((u : Int))] w fun e w' => e = .returned (.string ⟨(Lib.decDigits u).toArray⟩) ∧ Below w.heap.size w w' := by
  have HG := fun (d : Nat) (w1 : World) => Lib.hid (refDigit_pos d w1)
  have H0 := Lib.hid (Fx.decInv_first u)
  have HU := Lib.hid h1
  have E1 := Lib.hid (Fx.wdiv_pos u h1)
  clear h1
  go_enter Tryz.func37, Tryz.ntmps37
  go_wp2_with fail
  refine (HG u _).out.mono ?_
  rintro e w1 ⟨rfl, rfl⟩
  have hbs := build_one
  have hcv := conv_one
  generalize UInt8.ofNat (48 + u % 10) = c at H0 ⊢
  go_wp2_with fail
  go_loopw [3, 4] (fun s m wr => ∃ (q : Nat) (D : List UInt8), s = .string ⟨D.toArray⟩ ∧ m = .int .i64 ((q : Int)) ∧ Fx.DecInv u q D ∧ q ≤ u ∧ Below w.heap.size w wr) (fun _ m _ => (intOf m).natAbs)
  case atStart => exact ⟨u / 10, [c], rfl, by rw [E1.out], H0.out, by omega, (Below.refl _ _).alloc (Nat.le_refl _) _⟩
  case round =>
    obtain ⟨q, D, rfl, rfl, hinv, hqu, hb⟩ := hrel
    have HI := Lib.hid hinv
    have hD := Fx.decInv_len hinv (by have := HU.out; omega)
    clear hinv
    by_cases hq : q = 0
    · subst hq
      have HF := Lib.hid (HI.out.1 rfl)
      go_wp2
      go_ret
      refine ⟨Fx.ret_str ?_, hb⟩
      rw [HF.out]
    · have hqz : (((q : Int)) != 0) = true := by rw [bne_iff_ne]; omega
      have E2 := Lib.hid (Fx.wdiv_pos q (by have := HU.out; omega))
      have HJ := Lib.hid (Fx.decInv_step HI.out hq)
      go_wp2_with fail
      refine (HG q _).out.mono ?_
      rintro e w1 ⟨rfl, rfl⟩
      generalize UInt8.ofNat (48 + q % 10) = d at HJ ⊢
      go_wp2
      go_roundw
      case rel => exact ⟨q / 10, d :: D, congrArg Value.string (Fx.mk_append [d] D), by rw [E2.out], HJ.out, by omega, hb.alloc hb.size _⟩
      case measure => rw [E2.out]; simp [intOf]; omega
/-- at least seven digits: still so many noughts to come -/
def Fx.PadInv (P X : List UInt8) : Prop := P = List.replicate (7 - X.length) 48 ++ X
theorem Fx.padInv_step {P X : List UInt8} (h : Fx.PadInv P X) (hl : X.length < 7) : Fx.PadInv P (48 :: X) := by
  unfold Fx.PadInv at *
  rw [h, show 7 - X.length = (7 - (48 :: X).length) + 1 by simp; omega, ← Fx.rep_snoc, List.append_assoc]
  rfl
theorem Fx.padInv_end {P X : List UInt8} (h : Fx.PadInv P X) (hl : 7 ≤ X.length) : P = X := by
  unfold Fx.PadInv at h
  rw [h, show 7 - X.length = 0 by omega]; rfl
theorem Fx.ext_tail (X : List UInt8) : (⟨(45 :: X).toArray⟩ : ByteArray).extract 1 (X.length + 1) = ⟨X.toArray⟩ := by
  rw [Lib.extract_eq]
  simp
/-- how long a string is -/
def Fx.strLen : Value → Nat
  | .string s => s.size
  | _ => 0
theorem Fx.data_mk (X : List UInt8) : (⟨X.toArray⟩ : ByteArray).data.toList = X := rfl
theorem Fx.ext_head (z : ByteArray) (k : Nat) : z.extract 0 k = ⟨(z.data.toList.take k).toArray⟩ := by rw [Lib.extract_eq, List.drop_zero, Nat.sub_zero]
theorem Fx.ext_rest (z : ByteArray) (k : Nat) : z.extract k z.size = ⟨(z.data.toList.drop k).toArray⟩ := by
  rw [Lib.extract_eq, List.take_of_length_le (by rw [List.length_drop, Fx.len_data]; exact Nat.le_refl _)]
theorem Fx.toList_data (y : ByteArray) : y.toList = y.data.toList := Lib.toList_data y
theorem Fx.last_nought (y : ByteArray) (h : 0 < y.size) (hc : y[y.size - 1] = 48) : Lib.trimRightB y.data.toList 48 = Lib.trimRightB (y.extract 0 (y.size - 1)).data.toList 48 := by
  have e := Fx.take_snoc y (y.size - 1) (by omega)
  rw [show y.size - 1 + 1 = y.size by omega, Fx.take_all, hc] at e
  rw [Fx.ext_head]
  conv => lhs; rw [e]
  rw [Fx.trim_snoc]
theorem Fx.last_other (y : ByteArray) (h : 0 < y.size) (hc : y[y.size - 1] ≠ 48) : Lib.trimRightB y.data.toList 48 = y.data.toList := by
  have e := Fx.take_snoc y (y.size - 1) (by omega)
  rw [show y.size - 1 + 1 = y.size by omega, Fx.take_all] at e
  rw [e, Fx.trim_stop _ _ hc]
theorem Fx.empty_of (y : ByteArray) (h : y.size = 0) : y.data.toList = [] := List.length_eq_zero_iff.1 (by rw [Fx.len_data]; exact h)
set_option maxHeartbeats 1000000 in
theorem refText_neg (u : Nat) (h1 : u ≤ 9223372036854775808) (h0 : 0 < u) (w : World) :
    Calls Tryz.prog 36 #[.int .i64 (-(u : Int))] w fun e w' => e = .returned (.string ⟨(Fx.textL (-(u : Int))).toArray⟩) ∧ Below w.heap.size w w' := by
  have HD := Lib.hid (refDecimal_neg u h1 h0 w)
  have h20 := Fx.dec_len20 u (by omega)
  obtain ⟨P, hP⟩ : ∃ P, P = List.replicate (7 - (Lib.decDigits u).length) 48 ++ Lib.decDigits u := ⟨_, rfl⟩
  have HT := Lib.hid (Fx.text_eq (-(u : Int)) P (by rw [show (-(u : Int)).natAbs = u by omega]; exact hP))
  rw [if_pos (by omega)] at HT
  have HP : Hid (Fx.PadInv P (Lib.decDigits u)) := hP
  have hn0 : -(u : Int) < 0 := by omega
  generalize Lib.decDigits u = X0 at HD h20 HP
  clear h1 hP
  go_enter Tryz.func36, Tryz.ntmps36
  go_wp2_with fail
  refine HD.out.mono ?_
  rintro e w1 ⟨rfl, hb1⟩
  go_wp2_with fail
  rw [Fx.ext_tail X0]
  go_loop [3] (fun s => ∃ X : List UInt8, s = .string ⟨X.toArray⟩ ∧ Fx.PadInv P X ∧ X.length ≤ 20) (fun s => 7 - Fx.strLen s)
  case atStart => exact ⟨X0, rfl, HP.out, h20⟩
  case round =>
    obtain ⟨X, rfl, hX, hXl⟩ := hrel
    have HX := Lib.hid hX
    clear hX
    by_cases h7 : X.length < 7
    · have HN := Lib.hid (Fx.padInv_step HX.out h7)
      go_wp2
      go_round
      case rel => exact ⟨48 :: X, congrArg Value.string (Fx.mk_append [48] X), HN.out, by simp; omega⟩
      case measure => simp [Fx.strLen, ByteArray.size]; omega
    · have HE := Lib.hid (Fx.padInv_end HX.out (by omega))
      obtain ⟨z, hz⟩ : ∃ z : ByteArray, (⟨X.toArray⟩ : ByteArray) = z := ⟨_, rfl⟩
      have HZ : Hid (z.data.toList = P) := by show _ = _; rw [← hz, HE.out]
      have hz7 : 7 ≤ z.size := by rw [← hz, size_of_list]; omega
      have hz20 : z.size ≤ 20 := by rw [← hz, size_of_list]; omega
      rw [hz]
      clear hz h7 hXl HX HE HP
      have i1 : (0 : Int) ≤ (z.size : Int) - 6 := by omega
      have i2 : ((z.size : Int) - 6) ≤ (z.size : Int) := by omega
      have hd7 : decide ((z.size : Int) < 7) = false := decide_eq_false (by omega)
      go_wp2
      go_quiet (fail)
      go_wp2_with fail
      obtain ⟨wh, hwh⟩ : ∃ wh : ByteArray, z.extract 0 (z.size - 6) = wh := ⟨_, rfl⟩
      obtain ⟨y0, hy0⟩ : ∃ y0 : ByteArray, z.extract (z.size - 6) z.size = y0 := ⟨_, rfl⟩
      have hwl : wh.size ≤ 20 := by rw [← hwh, ByteArray.size_extract]; omega
      have hyl : y0.size ≤ 6 := by rw [← hy0, ByteArray.size_extract]; omega
      rw [hwh, hy0]
      have HW : Hid (wh = ⟨(P.take (P.length - 6)).toArray⟩) := by
        show _ = _
        rw [← hwh, Fx.ext_head, HZ.out, ← Fx.len_data, HZ.out]
      have HY : Hid (y0.data.toList = P.drop (P.length - 6)) := by
        show _ = _
        rw [← hy0, Fx.ext_rest, Fx.data_mk, HZ.out, ← Fx.len_data, HZ.out]
      clear hwh hy0
      go_loop [6] (fun s => ∃ y : ByteArray, s = .string y ∧ Lib.trimRightB y.data.toList 48 = Lib.trimRightB y0.data.toList 48 ∧ y.size ≤ 6) (fun s => Fx.strLen s)
      case atStart => exact ⟨y0, rfl, rfl, hyl⟩
      case round =>
        obtain ⟨y, rfl, hy, hyl2⟩ := hrel
        have HI := Lib.hid hy
        clear hy
        by_cases h0 : y.size = 0
        · have hem := Fx.empty_of y h0
          have ht1 : y.toList.isEmpty = true := by rw [Fx.toList_data, hem]; rfl
          have ht2 : y.toList = [] := by rw [Fx.toList_data, hem]
          have HE := Lib.hid hem
          clear hem h0
          go_wp2
          go_ret
          refine ⟨Fx.ret_str ?_, below_drewN hb1 _⟩
          rw [HT.out, ← HY.out, ← HI.out, HE.out, HW.out, show y = ⟨([] : List UInt8).toArray⟩ from by rw [← Lib.mk_data y, HE.out]]
          show (⟨([45] : List UInt8).toArray⟩ ++ _ ++ _ : ByteArray) = _
          rw [Fx.mk_append, Fx.mk_append]
          rfl
        · have hne : 0 < y.size := by omega
          have ht1 : y.toList.isEmpty = false := by
            rw [Fx.toList_data]
            cases hd : y.data.toList with
            | nil => rw [← Fx.len_data, hd] at hne; simp at hne
            | cons a t => rfl
          have j1 : (0 : Int) ≤ (y.size : Int) - 1 := by omega
          have j2 : ((y.size : Int) - 1) < (y.size : Int) := by omega
          clear h0
          by_cases hc : y[y.size - 1] = 48
          · have hcb : (((y[y.size - 1]).toNat : Int) == 48) = true := by rw [hc]; rfl
            have HN := Lib.hid (Fx.last_nought y hne hc)
            clear hc
            go_wp2
            go_round
            case rel => exact ⟨_, rfl, by rw [← HN.out]; exact HI.out, by rw [ByteArray.size_extract]; omega⟩
            case measure => simp only [Fx.strLen, ByteArray.size_extract]; omega
          · have hcb : (((y[y.size - 1]).toNat : Int) == 48) = false := beq_eq_false_iff_ne.2 (fun h => hc (UInt8.toNat_inj.1 (by simpa using Int.ofNat.inj h)))
            have HN := Lib.hid (Fx.last_other y hne hc)
            have HQ : Hid (Fx.dotL y.data.toList = 46 :: y.data.toList) := by
              show _ = _
              unfold Fx.dotL
              rw [if_neg (fun e => by rw [← Fx.len_data, e] at hne; simp at hne)]
            clear hc
            go_wp2
            go_ret
            refine ⟨Fx.ret_str ?_, below_drewN hb1 _⟩
            rw [HT.out, ← HY.out, ← HI.out, HN.out, HQ.out, HW.out]
            conv => lhs; rw [← Lib.mk_data y]
            show (⟨([45] : List UInt8).toArray⟩ ++ _ ++ (⟨[46].toArray⟩ ++ _) : ByteArray) = _
            rw [Fx.mk_append, Fx.mk_append, Fx.mk_append]
            rfl
set_option maxHeartbeats 1000000 in
theorem refText_pos (u : Nat) (h1 : u ≤ 9223372036854775808) (w : World) :
    Calls Tryz.prog 36 #[.int .i64 ((u : Int))] w fun e w' => e = .returned (.string ⟨(Fx.textL ((u : Int))).toArray⟩) ∧ Below w.heap.size w w' := by
  have HD := Lib.hid (refDecimal_pos u h1 w)
  have h20 := Fx.dec_len20 u (by omega)
  obtain ⟨P, hP⟩ : ∃ P, P = List.replicate (7 - (Lib.decDigits u).length) 48 ++ Lib.decDigits u := ⟨_, rfl⟩
  have HT := Lib.hid (Fx.text_eq ((u : Int)) P (by rw [show ((u : Int)).natAbs = u by omega]; exact hP))
  rw [if_neg (by omega)] at HT
  have HP : Hid (Fx.PadInv P (Lib.decDigits u)) := hP
  have hn0 : ¬ (u : Int) < 0 := by omega
  generalize Lib.decDigits u = X0 at HD h20 HP
  clear h1 hP
  go_enter Tryz.func36, Tryz.ntmps36
  go_wp2_with fail
  refine HD.out.mono ?_
  rintro e w1 ⟨rfl, hb1⟩
  go_wp2_with fail
  go_loop [3] (fun s => ∃ X : List UInt8, s = .string ⟨X.toArray⟩ ∧ Fx.PadInv P X ∧ X.length ≤ 20) (fun s => 7 - Fx.strLen s)
  case atStart => exact ⟨X0, rfl, HP.out, h20⟩
  case round =>
    obtain ⟨X, rfl, hX, hXl⟩ := hrel
    have HX := Lib.hid hX
    clear hX
    by_cases h7 : X.length < 7
    · have HN := Lib.hid (Fx.padInv_step HX.out h7)
      go_wp2
      go_round
      case rel => exact ⟨48 :: X, congrArg Value.string (Fx.mk_append [48] X), HN.out, by simp; omega⟩
      case measure => simp [Fx.strLen, ByteArray.size]; omega
    · have HE := Lib.hid (Fx.padInv_end HX.out (by omega))
      obtain ⟨z, hz⟩ : ∃ z : ByteArray, (⟨X.toArray⟩ : ByteArray) = z := ⟨_, rfl⟩
      have HZ : Hid (z.data.toList = P) := by show _ = _; rw [← hz, HE.out]
      have hz7 : 7 ≤ z.size := by rw [← hz, size_of_list]; omega
      have hz20 : z.size ≤ 20 := by rw [← hz, size_of_list]; omega
      rw [hz]
      clear hz h7 hXl HX HE HP
      have i1 : (0 : Int) ≤ (z.size : Int) - 6 := by omega
      have i2 : ((z.size : Int) - 6) ≤ (z.size : Int) := by omega
      have hd7 : decide ((z.size : Int) < 7) = false := decide_eq_false (by omega)
      go_wp2
      go_quiet (fail)
      go_wp2_with fail
      obtain ⟨wh, hwh⟩ : ∃ wh : ByteArray, z.extract 0 (z.size - 6) = wh := ⟨_, rfl⟩
      obtain ⟨y0, hy0⟩ : ∃ y0 : ByteArray, z.extract (z.size - 6) z.size = y0 := ⟨_, rfl⟩
      have hwl : wh.size ≤ 20 := by rw [← hwh, ByteArray.size_extract]; omega
      have hyl : y0.size ≤ 6 := by rw [← hy0, ByteArray.size_extract]; omega
      rw [hwh, hy0]
      have HW : Hid (wh = ⟨(P.take (P.length - 6)).toArray⟩) := by
        show _ = _
        rw [← hwh, Fx.ext_head, HZ.out, ← Fx.len_data, HZ.out]
      have HY : Hid (y0.data.toList = P.drop (P.length - 6)) := by
        show _ = _
        rw [← hy0, Fx.ext_rest, Fx.data_mk, HZ.out, ← Fx.len_data, HZ.out]
      clear hwh hy0
      go_loop [6] (fun s => ∃ y : ByteArray, s = .string y ∧ Lib.trimRightB y.data.toList 48 = Lib.trimRightB y0.data.toList 48 ∧ y.size ≤ 6) (fun s => Fx.strLen s)
      case atStart => exact ⟨y0, rfl, rfl, hyl⟩
      case round =>
        obtain ⟨y, rfl, hy, hyl2⟩ := hrel
        have HI := Lib.hid hy
        clear hy
        by_cases h0 : y.size = 0
        · have hem := Fx.empty_of y h0
          have ht1 : y.toList.isEmpty = true := by rw [Fx.toList_data, hem]; rfl
          have ht2 : y.toList = [] := by rw [Fx.toList_data, hem]
          have HE := Lib.hid hem
          clear hem h0
          go_wp2
          go_ret
          refine ⟨Fx.ret_str ?_, below_drewN hb1 _⟩
          rw [HT.out, ← HY.out, ← HI.out, HE.out, HW.out, show y = ⟨([] : List UInt8).toArray⟩ from by rw [← Lib.mk_data y, HE.out]]
          show (⟨([] : List UInt8).toArray⟩ ++ _ ++ _ : ByteArray) = _
          rw [Fx.mk_append, Fx.mk_append]
          rfl
        · have hne : 0 < y.size := by omega
          have ht1 : y.toList.isEmpty = false := by
            rw [Fx.toList_data]
            cases hd : y.data.toList with
            | nil => rw [← Fx.len_data, hd] at hne; simp at hne
            | cons a t => rfl
          have j1 : (0 : Int) ≤ (y.size : Int) - 1 := by omega
          have j2 : ((y.size : Int) - 1) < (y.size : Int) := by omega
          clear h0
          by_cases hc : y[y.size - 1] = 48
          · have hcb : (((y[y.size - 1]).toNat : Int) == 48) = true := by rw [hc]; rfl
            have HN := Lib.hid (Fx.last_nought y hne hc)
            clear hc
            go_wp2
            go_round
            case rel => exact ⟨_, rfl, by rw [← HN.out]; exact HI.out, by rw [ByteArray.size_extract]; omega⟩
            case measure => simp only [Fx.strLen, ByteArray.size_extract]; omega
          · have hcb : (((y[y.size - 1]).toNat : Int) == 48) = false := beq_eq_false_iff_ne.2 (fun h => hc (UInt8.toNat_inj.1 (by simpa using Int.ofNat.inj h)))
            have HN := Lib.hid (Fx.last_other y hne hc)
            have HQ : Hid (Fx.dotL y.data.toList = 46 :: y.data.toList) := by
              show _ = _
              unfold Fx.dotL
              rw [if_neg (fun e => by rw [← Fx.len_data, e] at hne; simp at hne)]
            clear hc
            go_wp2
            go_ret
            refine ⟨Fx.ret_str ?_, below_drewN hb1 _⟩
            rw [HT.out, ← HY.out, ← HI.out, HN.out, HQ.out, HW.out]
            conv => lhs; rw [← Lib.mk_data y]
            show (⟨([] : List UInt8).toArray⟩ ++ _ ++ (⟨[46].toArray⟩ ++ _) : ByteArray) = _
            rw [Fx.mk_append, Fx.mk_append, Fx.mk_append]
            rfl
theorem refText_any (n : Int) (hn : Fx.lo ≤ n ∧ n ≤ Fx.hi) (w : World) :
    Calls Tryz.prog 36 #[.int .i64 n] w fun e w' => e = .returned (.string ⟨(Fx.textL n).toArray⟩) ∧ Below w.heap.size w w' := by
  obtain ⟨h1, h2⟩ := hn
  unfold Fx.lo at h1
  unfold Fx.hi at h2
  by_cases h : n < 0
  · obtain ⟨u, rfl⟩ : ∃ u : Nat, n = -(u : Int) := ⟨n.natAbs, by omega⟩
    exact refText_neg u (by omega) (by omega) w
  · obtain ⟨u, rfl⟩ : ∃ u : Nat, n = (u : Int) := ⟨n.natAbs, by omega⟩
    exact refText_pos u (by omega) w
end Go.Proofs.YtefnpfhhomkiaaaGreatDoor
